"""A desk: lines that are done to one helper, and their answers."""

from typedahead.errors import BadName, Clash, NoDeed, NoEdit, NoFile, NoMend, NoName, NoPiece, NoSpot, Tangled, TooLong
from typedahead.helper import Helper
from typedahead.orders import read_desk
from typedahead.texts import at_of, rows_of

NOTHING = "-"
REFUSED = "refused"


def run(text):
    """The list of answers to the lines behind begin; refused with BadLine."""
    house, orders = read_desk(text)
    helper = Helper(house)
    return [answered(helper, word, things) for word, things in orders]


def answered(helper, word, things):
    """The answer to an order."""
    action = ACTIONS[word]
    try:
        return action(helper, things)
    except (BadName, Clash, NoDeed, NoEdit, NoFile, NoMend, NoName, NoPiece, NoSpot, Tangled, TooLong):
        return REFUSED


def several(told):
    """The texts as one answer."""
    return "; ".join(told) if told else NOTHING


def placed(place, *more):
    """A place, with words behind it, as it's answered."""
    file, row, column = place
    return " ".join([file, str(row), str(column), *more])


def worded(value):
    """A value as it's answered."""
    if value is None:
        return NOTHING
    if isinstance(value, list):
        return "[" + ", ".join([worded(item) for item in value]) + "]"
    if isinstance(value, bool):
        return "yes" if value else "no"
    return str(value) if isinstance(value, int) else '"' + value + '"'


def at_place(helper, file, row, column):
    """The place in the file's text of that row and column; refused with NoFile, NoSpot."""
    text = helper.text(file)
    rows = rows_of(text)
    if row >= len(rows) or column > len(rows[row]):
        raise NoSpot(column)
    return at_of(text, row, column)


def edited(helper, things, cut, put):
    """The answer to an order that edits at the place which its first things tell."""
    editor, file, row, column = things[:4]
    return str(helper.edit(editor, file, (at_place(helper, file, row, column), cut, put)))


def do_put(helper, things):
    """Puts signs in."""
    return edited(helper, things, 0, things[4])


def do_cut(helper, things):
    """Cuts signs and line feeds out."""
    return edited(helper, things, things[4], "")


def do_split(helper, things):
    """Puts a line feed in."""
    return edited(helper, things, 0, "\n")


def do_lay(helper, things):
    """Lays a file out."""
    return str(helper.lay(things[0], things[1]))


def do_lead(helper, things):
    """Leads a NAME over."""
    editor, file, row, column, name = things
    return str(helper.lead(editor, (file, row, column), name))


def do_move(helper, things):
    """Moves a piece."""
    editor, file, row, goal = things
    return str(helper.move(editor, file, row, goal))


def do_mend(helper, things):
    """Does the first mend of the fault of that number."""
    editor, number = things
    told = helper.faults()
    if number >= len(told):
        raise NoMend(number)
    return str(helper.mend(editor, told[number]))


def do_undo(helper, things):
    """Takes a deed back."""
    return str(helper.undo(things[0]))


def do_redo(helper, things):
    """Does a deed again."""
    return str(helper.redo(things[0]))


def tell_rows(helper, things):
    """A file's rows."""
    return several(["|" + row for row in rows_of(helper.text(things[0]))])


def tell_faults(helper, things):
    """The faults, with their places."""
    return several([placed(place, word) for place, word, _ in helper.faults()])


def tell_kinds(helper, things):
    """The pieces' kinds; of a def its own one alone."""
    return several([f"{file} {name} {kind or NOTHING}" for file, name, _, kind in helper.kinds()])


def tell_values(helper, things):
    """The let pieces' values."""
    return several([f"{file} {name} {worded(value)}" for file, name, value in helper.worths()])


def tell_uses(helper, things):
    """The places of all tokens of one target."""
    return several([placed(place) for place in helper.uses(tuple(things))])


def tell_offers(helper, things):
    """The words that fit."""
    return several(helper.offers(tuple(things)))


def tell_work(helper, things):
    """How many rows were read and reckoned."""
    read, reckoned = helper.work()
    return f"{read} {reckoned}"


ACTIONS = {
    "put": do_put,
    "cut": do_cut,
    "split": do_split,
    "lay": do_lay,
    "lead": do_lead,
    "move": do_move,
    "mend": do_mend,
    "undo": do_undo,
    "redo": do_redo,
    "rows": tell_rows,
    "faults": tell_faults,
    "kinds": tell_kinds,
    "values": tell_values,
    "uses": tell_uses,
    "offers": tell_offers,
    "work": tell_work,
}
