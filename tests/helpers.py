"""What several tests share."""

SIGNS = "".join(chr(number) for number in range(32, 127) if number != 37)


def nested(depth, inner="a"):
    """A list in a tuple in a list, so many deep, with a thing in the innermost."""
    thing = inner
    for level in range(depth):
        thing = [thing] if level % 2 else (thing,)
    return thing


THINGS = [
    0, 1, -1, 24, 10 ** 30, True, False, None, "", "a", "\n", "a\nb", [], (), [""], ("",), ("a", "b"),
    [["a"], ("b", [None, (True, 0)])], nested(40), nested(39, ("a", "")), ["a"] * 4000, ("a",) * 4000,
    (("a", "b"),) * 2000, ((),), ([],), ((), ()), (0, 0, 0), ("", "", ""), (None, None, None),
]


def listed(thing):
    """The thing with a list for each tuple."""
    return [listed(part) for part in thing] if isinstance(thing, (list, tuple)) else thing


def tupled(thing):
    """The thing with a tuple for each list."""
    return tuple(tupled(part) for part in thing) if isinstance(thing, (list, tuple)) else thing


def sorts(thing):
    """The thing with the class of each value in its stead, so that True isn't taken for 1."""
    if isinstance(thing, (list, tuple)):
        return (type(thing), [sorts(part) for part in thing])
    return (type(thing), thing)


def same(test, told, wanted):
    """Checks that what is told is what is wanted, with its lists, tuples, numbers and flags."""
    test.assertEqual(sorts(told), sorts(wanted))


def lists_in(thing):
    """All lists in the thing, itself too."""
    inner = [found for part in thing for found in lists_in(part)] if isinstance(thing, (list, tuple)) else []
    return [thing, *inner] if isinstance(thing, list) else inner


def told_anew(test, ask):
    """Checks that the same is told twice, and that no two told lists are one and the same."""
    first, second = ask(), ask()
    same(test, first, second)
    found = lists_in(first) + lists_in(second)
    test.assertEqual(len({id(one) for one in found}), len(found))
    wanted = sorts(second)
    for one in lists_in(first):
        one.clear()
    test.assertEqual(sorts(second), wanted)
    test.assertEqual(sorts(ask()), wanted)
