"""Edits of a text: done, taken back, found, and carried over one another."""

from typedahead.errors import Tangled, TooLong
from typedahead.texts import is_sign, is_text
from typedahead.things import is_count


def is_edit(text, thing):
    """Whether the thing is an edit of the text."""
    if not isinstance(thing, tuple) or len(thing) != 3:
        return False
    at, cut, put = thing
    return is_count(at) and is_count(cut) and at + cut <= len(text) and is_put(put)


def is_put(thing):
    """Whether the thing is made of signs and line feeds; it may be too long for a text."""
    return isinstance(thing, str) and all([sign == "\n" or is_sign(sign) for sign in thing])


def done(text, edit):
    """The text behind the edit; refused with TooLong."""
    at, cut, put = edit
    behind = text[:at] + put + text[at + cut:]
    if not is_text(behind):
        raise TooLong()
    return behind


def back_of(text, edit):
    """The edit that takes the edit of the text back behind it."""
    at, cut, put = edit
    return (at, len(put), text[at:at + cut])


def between(text, other):
    """The edit by which the text becomes the other one."""
    at = alike(text, other)
    # Only what is left behind the beginning: no sign may count to both ends.
    end = alike(text[at:][::-1], other[at:][::-1])
    return (at, len(text) - end - at, other[at:len(other) - end])


def alike(text, other):
    """How many signs, or rows of two lists, both begin with alike."""
    for at, (sign, beside) in enumerate(zip(text, other)):
        if sign != beside:
            return at
    return min(len(text), len(other))


def shifted(at, edit, *, ahead=True):
    """Where a place of the text is behind the edit."""
    start, cut, put = edit
    stays = at <= start
    goes = at >= start + cut
    if stays and (ahead or not goes):
        return at
    return at + len(put) - cut if goes else start


def carried(edit, other, *, ahead=True):
    """The edit as it is behind the other one of the same text; refused with Tangled."""
    at, cut, put = edit
    start, gone, come = other
    stays = at + cut <= start
    goes = at >= start + gone
    if not stays and not goes:
        raise Tangled(0)
    if stays and (ahead or not goes):
        return (at, cut, put)
    return (at + len(come) - gone, cut, put)
