"""Point [1], and [2] over the whole program: a helper by chance beside one that is told in another way,
and beside helpers begun anew."""

import importlib
import inspect
import random
import time
import unittest

import oracle
import oracle_faults
from chances import PUTS, faulty_house, full_house
from helpers import same
from oracle_helper import Oracle, Refused
from typedahead import errors
from typedahead.errors import NoName
from typedahead.helper import Helper
from typedahead.kinds import piece_kinds
from typedahead.names import pieces, target
from typedahead.values import values

FIELDS = {
    "NoFile": ["file"], "NoEdit": ["thing"], "TooLong": [], "BadName": ["name"], "NoName": ["place"], "Clash": ["place"],
    "NoPiece": ["file", "row"], "NoMend": ["number"], "NoDeed": [], "Tangled": ["number"], "NoSpot": ["at"],
    "NoMark": ["number"], "NoAsk": ["number"],
}
CALLS = {
    "words": ["is_name(thing)"],
    "texts": ["is_text(thing)", "rows_of(text)", "text_of(rows)", "spot(text, at)", "at_of(text, row, column)"],
    "edits": ["is_edit(text, thing)", "done(text, edit)", "back_of(text, edit)", "between(text, other)",
              "shifted(at, edit, *, ahead=True)", "carried(edit, other, *, ahead=True)"],
    "tokens": ["tokens(row)"], "trees": ["tree(row)", "stops(row)"], "layout": ["laid(row)", "laid_text(text)"],
    "names": ["is_house(thing)", "target(house, place)", "uses(house, place)", "pieces(house)"],
    "kinds": ["part_kinds(house, file, row)", "piece_kinds(house)", "ringed(house)"], "values": ["values(house)"],
    "faults": ["faults(house)"], "mends": ["mends(house, fault)"], "offers": ["offers(house, place, *, begin='')"],
    "leading": ["led(house, place, name)"], "moving": ["moved(house, file, row, goal)"],
    "papers": ["name_paper(house)", "kind_paper(house)", "value_paper(house)", "house_paper(house)", "shows_names(house, thing)",
               "shows_kinds(house, thing)", "shows_values(house, thing)", "shows_house(house, thing)",
               "led_paper(house, place, name)", "shows_led(house, place, name, other, thing)"],
    "desk": ["run(text)"],
}
METHODS = [
    "edit(self, editor, file, edit)", "lay(self, editor, file)", "lead(self, editor, place, name)",
    "move(self, editor, file, row, goal)", "mend(self, editor, fault, *, number=0)", "make(self)", "house(self)",
    "text(self, file)", "faults(self)", "kinds(self)", "worths(self)", "target(self, place)", "uses(self, place)",
    "mends(self, fault)", "offers(self, place, *, begin='')", "text_at(self, make, file)", "twin(self)", "work(self)",
    "total(self)", "undo(self, editor)", "redo(self, editor)", "can(self, editor)", "mark(self, editor, file, at)",
    "marks(self, *, editor=None)", "drop(self, number)", "ask(self, editor, word, *, place=None, begin='')", "answer(self)",
    "withdraw(self, number)", "waiting(self)", "late(self)",
]


class TestInterface(unittest.TestCase):
    def test_each_function_in_its_file_with_its_arguments(self):
        for file, calls in CALLS.items():
            module = importlib.import_module("typedahead." + file)
            for call in calls:
                told = getattr(module, call.partition("(")[0])
                self.assertEqual((told.__name__ + str(inspect.signature(told)), told.__module__), (call, module.__name__))

    def test_each_method_in_the_class_itself(self):
        for call in METHODS:
            told = vars(Helper)[call.partition("(")[0]]
            self.assertEqual(told.__name__ + str(inspect.signature(told)), call)
        self.assertEqual(str(inspect.signature(Helper)), "(house)")

    def test_constants(self):
        self.assertEqual(importlib.import_module("typedahead.texts").MOST_ROWS, 24)
        self.assertEqual(importlib.import_module("typedahead.texts").MOST_SIGNS, 60)
        self.assertEqual(len(importlib.import_module("typedahead.words").HELD), 15)
        self.assertEqual(len(importlib.import_module("typedahead.words").KINDS), 6)


def outcome(deed):
    """What the deed tells, or its refusal: the error's name and its fields."""
    try:
        return ("told", deed())
    except Refused as e:
        return ("refused", *e.args)
    except tuple(getattr(errors, name) for name in FIELDS) as e:
        return ("refused", type(e).__name__, *[getattr(e, field) for field in FIELDS[type(e).__name__]])


class Walk:
    """A helper and the other telling of one, to which the same deeds and asks are done by chance."""

    def __init__(self, chance, house):
        self.chance = chance
        self.helper = Helper(house)
        self.oracle = Oracle(house)

    def step(self):
        """Does one; told are its word and both outcomes."""
        chance, house = self.chance, self.oracle.houses[-1]
        editor, file = chance.randrange(2), chance.choice(house)[0] if chance.random() < 0.97 else "zz"
        word = chance.choice(["edit"] * 9 + ["undo"] * 5 + ["redo"] * 4 + ["lay", "lead", "lead", "move", "move", "mend", "mend",
                                                                          "mark", "mark", "drop", "ask", "ask", "answer", "withdraw"])
        text = dict(house).get(file, "")
        places = oracle.places(house) + [fault[0] for fault in oracle_faults.faults(house) if fault[1] == "part"]
        place, number = chance.choice(places + [("zz", 0, 0)]), chance.randrange(5)
        if word == "edit":
            at = chance.randrange(len(text) + 1)
            cut = chance.choice((0, 0, 0, 1, 2, 12)) if chance.random() < 0.1 else min(chance.choice((0, 0, 1, 9)), len(text) - at)
            given = (editor, file, (at, cut, chance.choice(PUTS)))
        elif word == "mend":
            fault = chance.choice(oracle_faults.faults(house) or [(place, "odd", "")])
            number = chance.choice((0, 0, 1, 2))
            return (word, outcome(lambda: self.helper.mend(editor, fault, number=number)),
                    outcome(lambda: self.oracle.mend(editor, fault, number)))
        elif word == "ask":
            kind, begin = chance.choice(("faults", "kinds", "values", "uses", "offers")), chance.choice(("", "a"))
            return (word, outcome(lambda: self.helper.ask(editor, kind, place=place, begin=begin)),
                    outcome(lambda: self.oracle.ask(editor, kind, place, begin)))
        elif word == "move":
            piece = chance.choice(oracle.made(house) or [(file, "", 0)])
            given = (editor, piece[0], piece[2], chance.choice(house)[0])
        else:
            given = {"undo": (editor,), "redo": (editor,), "lay": (editor, file), "answer": (), "drop": (number,), "withdraw": (number,),
                     "lead": (editor, place, chance.choice(oracle.NAMES + "xyz")), "mark": (editor, file, chance.randrange(-1, len(text) + 2)),
                     }[word]
        return word, outcome(lambda: getattr(self.helper, word)(*given)), outcome(lambda: getattr(self.oracle, word)(*given))


class TestByChance(unittest.TestCase):
    def held(self, walk):
        """Checks what the helper tells of itself."""
        helper, other = walk.helper, walk.oracle
        same(self, (helper.house(), len(helper), helper.make()), (other.houses[-1], len(other.houses), len(other.houses) - 1))
        same(self, (helper.marks(), helper.marks(editor=1)), (other.marks(None), other.marks(1)))
        same(self, (helper.can(0), helper.can(1)), (other.can(0), other.can(1)))
        same(self, helper.waiting(), [each[0] for each in other.asks])
        same(self, helper.late(), [each[0] for each in other.asks if each[2] != helper.make()])

    def begun_anew(self, helper):
        """Checks that the helper tells what one does that is begun anew with the present texts."""
        anew = Helper(helper.house())
        told = helper.faults()
        same(self, (told, helper.kinds(), helper.worths()), (anew.faults(), anew.kinds(), anew.worths()))
        for fault in told[:3]:
            same(self, helper.mends(fault), anew.mends(fault))
        for place in oracle.places(helper.house())[:12:2] + [fault[0] for fault in told if fault[1] == "part"][:2]:
            for name in ("target", "uses", "offers"):
                same(self, outcome(lambda: getattr(helper, name)(place)), outcome(lambda: getattr(anew, name)(place)))

    def test_beside_the_other_telling(self):
        chance = random.Random(40)
        met = {}
        for _ in range(60):
            walk = Walk(chance, faulty_house(chance))
            for number in range(chance.randrange(5, 45)):
                word, told, wanted = walk.step()
                same(self, (word, told), (word, wanted))
                self.held(walk)
                met[word, told[1] if told[0] == "refused" else "told"] = True
                if number % 7 == 0:
                    self.begun_anew(walk.helper)
                    same(self, walk.helper.faults(), oracle_faults.faults(walk.helper.house()))
            works = walk.oracle.works()
            same(self, (walk.helper.work(), walk.helper.total()), (works[-1], tuple(map(sum, zip(*works)))))
            for make, house in enumerate(walk.oracle.houses):
                same(self, [walk.helper.text_at(make, file) for file, _ in house], [text for _, text in house])
        for each in (("undo", "Tangled"), ("redo", "told"), ("undo", "NoDeed"), ("lead", "Clash"), ("move", "Clash"), ("move", "told"),
                     ("mend", "NoMend"), ("mend", "told"), ("edit", "TooLong"), ("edit", "NoEdit"), ("mark", "NoSpot"),
                     ("drop", "told"), ("answer", "told"), ("withdraw", "told"), ("withdraw", "NoAsk"), ("ask", "NoName")):
            self.assertIn(each, met)

    def test_in_whatever_order_asks_came(self):
        chance = random.Random(41)
        for _ in range(20):
            house = faulty_house(chance)
            first, second = Walk(chance, house), Walk(chance, house)
            deeds = []
            for _ in range(12):
                file, text = chance.choice(first.helper.house())
                edit = (chance.randrange(len(text) + 1), 0, chance.choice(PUTS))
                told = outcome(lambda: first.helper.edit(0, file, edit))
                deeds.append((file, edit, told))
                # Only the first one is asked in between.
                self.begun_anew(first.helper)
            for file, edit, told in deeds:
                same(self, outcome(lambda: second.helper.edit(0, file, edit)), told)
            self.assertTrue(first.helper == second.helper)
            same(self, first.helper.total(), second.helper.total())
            self.begun_anew(second.helper)

    def test_kinds_and_values_stay_by_lead_and_move(self):
        chance = random.Random(42)
        met = {"lead": 0, "move": 0}
        for _ in range(80):
            helper = Helper(faulty_house(chance))
            for word in ("lead", "move"):
                house = helper.house()
                made = chance.choice(pieces(house) or [("main", "a", 0)])
                place = (made[0], made[2], 4)
                given = (place, "xyz") if word == "lead" else (made[0], made[2], chance.choice(house)[0])
                due = outcome(lambda: target(house, place))
                if outcome(lambda: getattr(helper, word)(0, *given))[0] == "refused":
                    continue
                new = ("piece", made[0], "xyz") if word == "lead" else ("piece", given[2], made[1])
                if word == "move" or due == ("told", ("piece", *made[:2])):
                    met[word] += 1
                    for tell in (piece_kinds, values):
                        ahead = [(*(new[1:] if each[:2] == made[:2] else each[:2]), *each[2:]) for each in tell(house)]
                        same(self, sorted(ahead, key=repr), sorted(tell(helper.house()), key=repr))
                helper.undo(0)
                same(self, helper.house(), house)
        self.assertGreater(min(met.values()), 5)


class TestGreatHouses(unittest.TestCase):
    def test_forty_deeds_and_asks_on_full_files(self):
        chance = random.Random(43)
        where = full_house(chance)
        helper = Helper(where)
        begun = time.perf_counter()
        for number in range(40):
            file, text = chance.choice(helper.house())
            rows = text.split("\n")
            row = chance.randrange(6, len(rows))
            at = sum(len(each) + 1 for each in rows[:row]) + 9
            outcome(lambda: helper.edit(number % 2, file, (at, 1, chance.choice(("1", "[", "zz")))))
            helper.mark(number % 2, file, at)
            if number % 5 == 0:
                helper.undo(number % 2)
            if number % 5 == 1:
                outcome(lambda: helper.redo(1 - number % 2))
            told = helper.faults()
            fault = chance.choice(told)
            helper.mends(fault)
            helper.kinds()
            helper.worths()
            for other in (fault[0], (file, row, 9)):
                try:
                    helper.offers(other)
                    helper.ask(0, "offers", place=other)
                except NoName:
                    pass
            if number % 3 == 0:
                helper.answer()
        while helper.answer() is not None:
            pass
        anew = Helper(helper.house())
        same(self, (helper.faults(), helper.kinds(), helper.worths()), (anew.faults(), anew.kinds(), anew.worths()))
        self.assertLess(time.perf_counter() - begun, 180)


if __name__ == "__main__":
    unittest.main()
