"""Deeds taken back, from the houses behind each make."""

from typedahead.edits import back_of, between, carried, done
from typedahead.errors import Tangled


def taken_back(houses, took, make):
    """The present house, the last one, with that make taken back; took tells of each undo and redo
    which make it took back; refused with Tangled, TooLong."""
    edits = [back_edit(houses, took, make, at) for at in range(len(houses[0]))]
    return tuple([(file, done(text, edit)) for (file, text), edit in zip(houses[-1], edits)])


def back_edit(houses, took, make, at):
    """The edit by which the make is taken back in the file of that number; refused with Tangled."""
    texts = [house[at][1] for house in houses]
    if not changes(texts, make):
        # Nothing is to be taken back there, and so there's nothing to be carried over.
        return (0, 0, "")
    edit = back_of(texts[make - 1], between(texts[make - 1], texts[make]))
    for number in left_over(texts, took, make):
        try:
            edit = carried(edit, between(texts[number - 1], texts[number]))
        except Tangled:
            raise Tangled(number) from None
    return edit


def changes(texts, make):
    """Whether the make changed the text."""
    return texts[make - 1] != texts[make]


def left_over(texts, took, make):
    """The list of the makes behind that one that changed the text, but for pairs left out: a make
    and the one that took it back, where nothing is left between them."""
    told = []
    for number in range(make + 1, len(texts)):
        if changes(texts, number):
            # Whatever stood between the two was left out already: so the last one left is the next.
            if told and took.get(number) == told[-1]:
                told.pop()
            else:
                told.append(number)
    return told
