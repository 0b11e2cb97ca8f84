"""Things made of numbers, texts, lists and tuples: handed in, and held against one another."""


def tupled(thing):
    """The thing with a tuple for each list in it, itself too."""
    return tuple([tupled(part) for part in thing]) if isinstance(thing, (list, tuple)) else thing


def same(thing, other):
    """Whether both are just the same: True isn't 1, a list no tuple."""
    if isinstance(thing, (list, tuple)) and isinstance(other, (list, tuple)):
        if isinstance(thing, list) != isinstance(other, list) or len(thing) != len(other):
            return False
        return all([same(part, beside) for part, beside in zip(thing, other)])
    return isinstance(thing, bool) == isinstance(other, bool) and thing == other


def is_count(thing):
    """Whether the thing is a number from 0 on; True and False are none."""
    return isinstance(thing, int) and not isinstance(thing, bool) and thing >= 0
