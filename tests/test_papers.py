"""Point [20]: papers, and whether a thing is just one."""

import random
import time
import unittest

import oracle
from chances import faulty_house, full_house
from helpers import THINGS, listed, lists_in, same, told_anew, tupled
from test_faults import house
from typedahead import papers as papers_file
from typedahead.errors import BadName, Clash, NoName, TooLong
from typedahead.kinds import part_kinds
from typedahead.leading import led
from typedahead.names import target, uses
from typedahead.papers import (
    house_paper, kind_paper, led_paper, name_paper, shows_house, shows_kinds, shows_led, shows_names, shows_values, value_paper,
)
from typedahead.values import values

HOUSE = house('take bb\nlet a = [b, 1] at c + zz\ndef f(n num) = n\nlet d = [yes, 1 < 2]\n? x', 'let b = 1\nlet c = 0\nlet e = "x"')
PAPERS = ((name_paper, shows_names), (kind_paper, shows_kinds), (value_paper, shows_values), (house_paper, shows_house))


def otherwise(thing):
    """All things that come of it by one change at any depth."""
    if isinstance(thing, (list, tuple)):
        whole = type(thing)
        told = [tuple(thing) if whole is list else list(thing)]
        for at, part in enumerate(thing):
            told += [whole([*thing[:at], other, *thing[at + 1:]]) for other in otherwise(part)]
            told += [whole([*thing[:at], *thing[at + 1:]]), whole([*thing[:at], part, *thing[at:]])]
            if at and repr(thing[at - 1]) != repr(part):
                told.append(whole([*thing[:at - 1], part, thing[at - 1], *thing[at + 1:]]))
        return told + [whole([*thing, None])]
    if isinstance(thing, bool):
        return [int(thing), not thing, None, "yes"]
    if isinstance(thing, int):
        return [thing + 1, thing - 1, str(thing), None] + ([bool(thing)] if thing in (0, 1) else [])
    return [thing + "x", thing[:-1] + "?", None, 0, [thing], (thing,)] if isinstance(thing, str) else ["", 0, False, (), []]


class TestPapers(unittest.TestCase):
    def test_defined_in_their_file(self):
        for told in [each for pair in PAPERS for each in pair] + [led_paper, shows_led]:
            self.assertEqual(told.__module__, papers_file.__name__)

    def test_name_paper(self):
        where = house("take bb\nlet a = b + zz x\n? c", "let b = 1")
        same(self, name_paper(where), [
            (("aa", 0, 5), ("file", "bb")), (("aa", 1, 4), ("piece", "aa", "a")), (("aa", 1, 8), ("piece", "bb", "b")),
            (("aa", 1, 12), None), (("aa", 1, 15), None), (("aa", 2, 2), None), (("bb", 0, 4), ("piece", "bb", "b"))])
        same(self, name_paper(house("def f(a num) = a")), [
            (("aa", 0, 4), ("piece", "aa", "f")), (("aa", 0, 6), ("param", "aa", 0, "a")), (("aa", 0, 15), ("param", "aa", 0, "a"))])
        same(self, name_paper(house("\n1", "")), [])

    def test_kind_paper(self):
        where = house("take bb\nlet = 1\n\nlet a = [yes\n?", "def f(a num, b) = a + b\nlet a = zz")
        same(self, kind_paper(where), [
            ("aa", 1, [(2, "num")]), ("aa", 3, [(3, "flags"), (4, "flag")]),
            ("bb", 0, [(10, "num"), (9, "num"), (11, None)]), ("bb", 1, [(3, None)])])
        same(self, kind_paper(house("", "take aa")), [])

    def test_value_paper_and_house_paper(self):
        same(self, value_paper(HOUSE), values(HOUSE))
        same(self, value_paper(house("let a = 1\nlet b = zz\ndef f(n num) = n")), [("aa", "a", 1), ("aa", "b", None)])
        same(self, house_paper(HOUSE), (name_paper(HOUSE), kind_paper(HOUSE), value_paper(HOUSE)))

    def test_lists_for_tuples_and_what_is_handed_in_stays(self):
        handed = listed(HOUSE)
        for paper, shows in PAPERS:
            same(self, paper(handed), paper(HOUSE))
            same(self, paper(house=HOUSE), paper(HOUSE))
            self.assertIs(shows(handed, paper(HOUSE)), True)
            self.assertIs(shows(thing=paper(handed), house=HOUSE), True)
        self.assertEqual(handed, listed(HOUSE))

    def test_told_anew(self):
        for paper, _ in PAPERS:
            told_anew(self, lambda: paper(HOUSE))
        told_anew(self, lambda: led_paper(HOUSE, ("aa", 1, 4), "x"))

    def test_shows_the_paper_and_nothing_otherwise(self):
        for paper, shows in PAPERS:
            told = paper(HOUSE)
            self.assertIs(shows(HOUSE, told), True)
            others = otherwise(told)
            self.assertGreater(len(others), 40)
            for other in others:
                self.assertIs(shows(HOUSE, other), False, other)
            self.assertIs(shows(HOUSE, listed(told)), False)
            self.assertIs(shows(HOUSE, tupled(told)), False)
            same(self, told, paper(HOUSE))

    def test_numbers_are_no_flags(self):
        where = house("let a = 1\nlet b = yes\nlet c = 0\nlet d = [no, yes]")
        for thing, wanted in (([1, True, 0, [False, True]], True), ([True, True, 0, [False, True]], False),
                              ([1, 1, 0, [False, True]], False), ([1, True, False, [False, True]], False),
                              ([1, True, 0, [0, 1]], False), ([1, True, 0, (False, True)], False)):
            paper = [("aa", name, value) for name, value in zip("abcd", thing)]
            self.assertIs(shows_values(where, paper), wanted)
        self.assertIs(shows_names(house("let a = 1"), [(("aa", False, 4), ("piece", "aa", "a"))]), False)

    def test_things_of_any_kind(self):
        for _, shows in PAPERS:
            for thing in THINGS:
                self.assertIs(shows(HOUSE, thing), False)
        for _, shows in PAPERS[:3]:
            for thing in THINGS:
                self.assertIs(shows(house(""), thing), thing == [])
        self.assertIs(shows_house(house(""), ([], [], [])), True)
        for thing in THINGS + [([], []), ([], [], ()), [[], [], []], ([], [], [], []), ((), (), ())]:
            self.assertIs(shows_house(house(""), thing), False)

    def test_of_each_house_and_none_but_one(self):
        chance = random.Random(34)
        houses = [faulty_house(chance) for _ in range(40)]
        for paper, shows in PAPERS:
            for first in houses[:15]:
                for second in houses:
                    self.assertIs(shows(first, paper(second)), repr(paper(first)) == repr(paper(second)))

    def test_as_asked_one_by_one(self):
        chance = random.Random(35)
        for _ in range(40):
            where = faulty_house(chance)
            same(self, name_paper(where), [(place, oracle.goal(where, place)) for place in oracle.places(where)])
            same(self, name_paper(where), [(place, target(where, place)) for place in oracle.places(where)])
            rows = [(file, at) for file, at, row in oracle.rows_in(where) if oracle.tree(row)[0] in ("let", "def")]
            same(self, kind_paper(where), [(*row, part_kinds(where, *row)) for row in rows])

    def test_great_houses(self):
        where = full_house(random.Random(36))
        begun = time.perf_counter()
        told = house_paper(where)
        self.assertIs(shows_house(where, told), True)
        self.assertGreater(len(lists_in(told[1])), 100)
        told[1][-1][2].pop()
        self.assertIs(shows_house(where, told), False)
        self.assertLess(time.perf_counter() - begun, 30)


class TestLedPaper(unittest.TestCase):
    def test_told(self):
        where = house("let a = b+b\n? b", "take aa\nlet c = b", "let b = 1")
        where = (("aa", "take cc\n" + where[0][1]), *where[1:])
        same(self, led_paper(where, ("cc", 0, 4), "long"), [
            (("aa", 0, 5), ("aa", 0, 5)), (("aa", 1, 4), ("aa", 1, 4)), (("aa", 1, 8), ("aa", 1, 8)),
            (("aa", 1, 10), ("aa", 1, 13)), (("aa", 2, 2), ("aa", 2, 2)), (("bb", 0, 5), ("bb", 0, 5)),
            (("bb", 1, 4), ("bb", 1, 4)), (("bb", 1, 8), ("bb", 1, 8)), (("cc", 0, 4), ("cc", 0, 4))])
        same(self, led_paper(name="x", place=["aa", 1, 4], house=listed(where)), led_paper(where, ("aa", 1, 4), "x"))

    def test_shorter_names(self):
        same(self, led_paper(house("let long = long+long"), ("aa", 0, 4), "x"), [
            (("aa", 0, 4), ("aa", 0, 4)), (("aa", 0, 11), ("aa", 0, 8)), (("aa", 0, 16), ("aa", 0, 10))])

    def test_refused_as_led_is(self):
        where = house("let a = 1\nlet b = a" + " " * 50, "take aa")
        for place, name, error, field in (
                (("zz", 0, 0), "let", BadName, "name"), (("aa", 0, 5), "x", NoName, "place"), (("bb", 0, 5), "x", NoName, "place"),
                (("aa", 0, 4), "bbb", TooLong, None), (("aa", 0, 4), "b", Clash, "place")):
            for ask in (led, led_paper):
                with self.assertRaises(error) as told:
                    ask(where, place, name)
                if field is not None:
                    same(self, getattr(told.exception, field),
                         {"name": name, "place": place if error is NoName else ("aa", 1, 4)}[field])
            self.assertIs(shows_led(where, place, name, where, []), False)
            self.assertIs(shows_led(where, place, name, where, None), False)

    def test_shows_led(self):
        place, name = ("bb", 0, 4), "long"
        other, thing = led(HOUSE, place, name), led_paper(HOUSE, place, name)
        self.assertIs(shows_led(HOUSE, place, name, other, thing), True)
        self.assertIs(shows_led(listed(HOUSE), list(place), name, listed(other), thing), True)
        self.assertIs(shows_led(thing=thing, other=other, name=name, place=place, house=HOUSE), True)
        self.assertIs(shows_led(HOUSE, place, "x", other, thing), False)
        self.assertIs(shows_led(HOUSE, ("bb", 1, 4), name, other, thing), False)
        for wrong in otherwise(thing) + THINGS:
            self.assertIs(shows_led(HOUSE, place, name, other, wrong), False)
        for wrong in otherwise(other) + THINGS:
            if tupled(wrong) != other:
                self.assertIs(shows_led(HOUSE, place, name, wrong, thing), False)
        for wrong in (HOUSE, other[::-1], other[:1], (), None, house("")):
            self.assertIs(shows_led(HOUSE, place, name, wrong, thing), False)

    def test_by_chance(self):
        chance = random.Random(37)
        met = 0
        for _ in range(60):
            where = faulty_house(chance)
            for place in oracle.places(where)[::3]:
                name = chance.choice("abcxyz")
                try:
                    after = led(where, place, name)
                except (NoName, Clash, TooLong):
                    continue
                told = led_paper(where, place, name)
                same(self, [ahead for ahead, _ in told], oracle.places(where))
                same(self, [behind for _, behind in told], oracle.places(after))
                self.assertIs(shows_led(where, place, name, after, told), True)
                due = uses(where, place)
                self.assertEqual({name}, {oracle.goal(after, behind)[-1] for ahead, behind in told if ahead in due})
                met += 1
        self.assertGreater(met, 50)


if __name__ == "__main__":
    unittest.main()
