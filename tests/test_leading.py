"""Point [13]: names led over."""

import random
import time
import unittest

import oracle
import oracle_faults
from chances import faulty_house, full_house
from helpers import listed, same
from test_faults import house
from typedahead import leading as leading_file
from typedahead.errors import BadName, Clash, NoName, TooLong
from typedahead.faults import faults
from typedahead.kinds import part_kinds, piece_kinds
from typedahead.leading import led
from typedahead.names import target, uses
from typedahead.values import values
from typedahead.words import HELD

HOUSE = (
    ("main", "take lib\nlet a = b + f(b, c)\ndef f(b num, c num) = b + c + a\nlet c = [b]  at(0)\n ? b"),
    ("lib", "let b = 1\nlet d = b+b\ntake main\nlet e = a"),
    ("free", "let b = 2\nlet a = b"),
)


class TestLed(unittest.TestCase):
    def test_defined_in_their_file(self):
        self.assertEqual(led.__module__, leading_file.__name__)

    def test_piece_with_all_that_name_it(self):
        same(self, led(HOUSE, ("lib", 0, 4), "other"), (
            ("main", "take lib\nlet a = other + f(other, c)\ndef f(b num, c num) = b + c + a\n"
                     "let c = [other]  at(0)\n ? b"),
            ("lib", "let other = 1\nlet d = other+other\ntake main\nlet e = a"), HOUSE[2]))
        same(self, led(HOUSE, ("main", 1, 4), "x"), (
            ("main", HOUSE[0][1].replace("let a", "let x").replace("+ a", "+ x")),
            ("lib", HOUSE[1][1].replace("= a", "= x")), HOUSE[2]))

    def test_param(self):
        wanted = (("main", HOUSE[0][1].replace("f(b num, c num) = b +", "f(zz num, c num) = zz +")), *HOUSE[1:])
        for column in (6, 22):
            same(self, led(HOUSE, ("main", 2, column), "zz"), wanted)

    def test_def_piece_called_and_alone(self):
        where = house("let a = f + f(1)\ndef f(n num) = f(n)\nlet b = [f(f(1)), f]")
        same(self, led(where, ("aa", 0, 8), "go"), house("let a = go + go(1)\ndef go(n num) = go(n)\nlet b = [go(go(1)), go]"))

    def test_from_each_of_its_uses_the_same_house(self):
        for place in oracle.places(HOUSE):
            if oracle.goal(HOUSE, place) not in (None, ("file", "lib"), ("file", "main")):
                wanted = led(HOUSE, place, "zzz")
                for other in uses(HOUSE, place):
                    same(self, led(HOUSE, other, "zzz"), wanted)

    def test_shorter_and_longer_names(self):
        where = house("let abcd = abcd+abcd*abcd\nlet b = [abcd,abcd]")
        for name in ("x", "xy", "wxyz", "stuvwxyz"):
            row = where[0][1].replace("abcd", name)
            same(self, led(where, ("aa", 0, 11), name), (("aa", row),))

    def test_to_its_own_name(self):
        for place in oracle.places(HOUSE):
            if oracle.goal(HOUSE, place) not in (None, ("file", "lib"), ("file", "main")):
                same(self, led(HOUSE, place, target(HOUSE, place)[-1]), HOUSE)

    def test_in_words_and_odd_rows_nothing_is_called_otherwise(self):
        where = house('let a = "a" & "a b"\na a = a\nlet b = a a')
        same(self, led(where, ("aa", 0, 4), "x"), house('let x = "a" & "a b"\na a = a\nlet b = x a'))

    def test_bad_name(self):
        for name in HELD + ("", "abcdefghi", "A", "Abc", "a1", "a b", " a", "a ", "1", "\n", None, 1, ("a",), ["a"]):
            for place in (("lib", 0, 4), ("lib", 0, 5), ("nofile", 0, 0)):
                with self.assertRaises(BadName) as told:
                    led(HOUSE, place, name)
                same(self, told.exception.name, name)

    def test_no_name(self):
        for place in (("main", 0, 5), ("lib", 2, 5), ("main", 4, 3), ("main", 0, 0), ("main", 1, 5), ("lib", 0, -1),
                      ("lib", -1, 4), ("lib", 9, 4), ("nofile", 0, 4)):
            for handed in (place, list(place)):
                with self.assertRaises(NoName) as told:
                    led(HOUSE, handed, "abc")
                same(self, told.exception.place, place)

    def test_no_name_of_one_that_stands_for_nothing(self):
        where = house("let a = zz\nlet a = 1\nlet b = 1 a\ndef f(a num, a num) = 1")
        for place in (("aa", 0, 8), ("aa", 1, 4), ("aa", 2, 10), ("aa", 3, 13)):
            with self.assertRaises(NoName) as told:
                led(where, place, "b")
            same(self, told.exception.place, place)

    def test_too_long(self):
        row = "let a = b" + " + b" * 12
        where = house(row + "\nlet b = 1")
        self.assertEqual(len(row), 57)
        with self.assertRaises(TooLong):
            led(where, ("aa", 1, 4), "bb")
        # A Clash would be due as well: the one told first goes.
        with self.assertRaises(TooLong):
            led(house(row + "\nlet b = 1\nlet bb = 1"), ("aa", 1, 4), "bb")
        for size, fits in ((58, True), (59, True), (60, True)):
            text = "let b = 1" + " " * (size - 9)
            same(self, led(house(text), ("aa", 0, 4), "b" * (61 - size)), house(text.replace("b", "b" * (61 - size))))
            with self.assertRaises(TooLong):
                led(house(text), ("aa", 0, 4), "b" * (62 - size))
        with self.assertRaises(TooLong):
            led(house("let b = 1", "take aa\nlet c = b" + " " * 51), ("aa", 0, 4), "bc")

    def clash(self, where, place, name, wanted):
        for handed in (where, listed(where)):
            with self.assertRaises(Clash) as told:
                led(handed, place, name)
            same(self, told.exception.place, wanted)

    def test_clash_by_a_piece_of_the_own_file(self):
        self.clash(house("let a = 1\nlet b = a\nlet c = b"), ("aa", 0, 4), "b", ("aa", 1, 4))
        self.clash(house("let a = 1\nlet b = a\nlet c = b"), ("aa", 2, 8), "a", ("aa", 1, 4))
        self.clash(house("let a = 1\nlet b = a\nlet c = b"), ("aa", 1, 4), "c", ("aa", 2, 4))

    def test_clash_by_a_param(self):
        self.clash(house("let a = 1\ndef f(b num) = a + b"), ("aa", 0, 4), "b", ("aa", 1, 15))
        self.clash(house("let a = 1\ndef f(b num) = a + b"), ("aa", 1, 6), "a", ("aa", 1, 15))
        self.clash(house("def f(a num, b num) = b + a"), ("aa", 0, 6), "b", ("aa", 0, 13))
        self.clash(house("def f(a num, b num) = a"), ("aa", 0, 13), "a", ("aa", 0, 13))

    def test_clash_by_a_piece_of_a_taken_file(self):
        self.clash(house("take bb\nlet a = b", "let b = 1"), ("aa", 1, 4), "b", ("aa", 1, 8))
        self.clash(house("take bb\nlet a = b", "let b = 1"), ("bb", 0, 4), "a", ("aa", 1, 8))
        self.clash(house("take bb\ntake cc\nlet a = b", "let b = 1", "let c = 1"), ("cc", 0, 4), "b", ("aa", 2, 8))
        self.clash(house("take bb\ntake cc\nlet a = b", "let b = 1", "let c = 1"), ("bb", 0, 4), "c", ("aa", 2, 8))

    def test_clash_where_something_stood_for_nothing(self):
        self.clash(house("let a = 1\nlet c = b"), ("aa", 0, 4), "b", ("aa", 1, 8))
        self.clash(house("let c = b(1)\ndef a(n num) = n"), ("aa", 1, 4), "b", ("aa", 0, 8))
        self.clash(house("def f(a num) = b"), ("aa", 0, 6), "b", ("aa", 0, 15))
        self.clash(house("let a = 1\nlet a = 2"), ("aa", 0, 4), "b", ("aa", 1, 4))
        self.clash(house("def f(a num, a num) = a"), ("aa", 0, 6), "b", ("aa", 0, 13))
        self.clash(house("take bb\ntake cc\nlet a = b", "let b = 1", "let b = 1"), ("bb", 0, 4), "c", ("aa", 2, 8))

    def test_clash_where_something_comes_to_stand_for_nothing(self):
        self.clash(house("let b = 1\nlet a = 2\nlet c = a"), ("aa", 1, 4), "b", ("aa", 1, 4))
        self.clash(house("take bb\ntake cc\nlet a = b", "let b = 1", "let c = 1"), ("cc", 0, 4), "b", ("aa", 2, 8))

    def test_clash_is_the_first_one_by_its_place_ahead(self):
        where = house("take bb\ndef f(c num) = c + long + long\nlet d = long\ndef g(c num) = long", "let long = 1\nlet c = 1")
        self.clash(where, ("bb", 0, 4), "c", ("aa", 1, 19))
        self.clash(where[::-1], ("bb", 0, 4), "c", ("bb", 1, 4))
        # Of two pieces of one file and NAME one makes none: told is its NAME, not one that names it.
        self.clash(house("take bb\nlet a = c", "let long = 1\nlet c = 1"), ("bb", 0, 4), "c", ("bb", 1, 4))
        # Its column ahead is told, not that behind.
        self.clash(house("let long = zz\nlet x = long + c + long\nlet e = 1"), ("aa", 0, 4), "c", ("aa", 1, 15))

    def test_file_names_are_free(self):
        where = house("take bb\nlet a = c", "let c = 1")
        same(self, led(where, ("bb", 0, 4), "bb"), house("take bb\nlet a = bb", "let bb = 1"))

    def test_piece_that_nobody_sees_from_there(self):
        where = house("let a = 1\nlet b = a", "let a = 2\nlet c = a")
        same(self, led(where, ("bb", 0, 4), "b"), house("let a = 1\nlet b = a", "let b = 2\nlet c = b"))

    def test_lists_for_tuples(self):
        same(self, led(listed(HOUSE), ["lib", 0, 4], "other"), led(HOUSE, ("lib", 0, 4), "other"))
        same(self, led(name="x", place=("lib", 0, 4), house=HOUSE), led(HOUSE, ("lib", 0, 4), "x"))

    def test_handed_in_stays(self):
        where, place = listed(HOUSE), ["lib", 0, 4]
        same(self, led(where, place, "xx"), led(where, place, "xx"))
        self.assertEqual((where, place), (listed(HOUSE), ["lib", 0, 4]))

    def told_of(self, where, renamed):
        """Kinds, values and faults, with the NAMEs of pieces in renamed called otherwise, and no columns."""
        pieces = [(file, renamed.get((file, name), name), *more) for file, name, *more in piece_kinds(where)]
        worths = [(file, renamed.get((file, name), name), value) for file, name, value in values(where)]
        rows = [part_kinds(where, file, row) for file, text in where for row in range(text.count("\n") + 1)]
        return pieces, worths, rows, [(place[:2], word, what) for place, word, what in faults(where)]

    def test_as_the_oracle_tells_it(self):
        chance = random.Random(27)
        met = {}
        for _ in range(150):
            where = faulty_house(chance)
            places = oracle.places(where)
            for place in chance.sample(places, min(6, len(places))):
                name = chance.choice(oracle.NAMES + "xyz") if chance.random() < 0.9 else chance.choice(("let", "abcdefgh"))
                wanted = oracle_faults.led(where, place, name)
                met[wanted[0]] = met.get(wanted[0], 0) + 1
                try:
                    told = ("house", led(where, place, name))
                except BadName as e:
                    told = ("BadName", e.name)
                except NoName as e:
                    told = ("NoName", e.place)
                except TooLong:
                    told = ("TooLong", None)
                except Clash as e:
                    told = ("Clash", e.place)
                same(self, told, wanted)
                if told[0] == "house":
                    due = target(where, place)
                    renamed = {due[1:]: name} if due[0] == "piece" else {}
                    same(self, self.told_of(where, renamed), self.told_of(told[1], {}))
        self.assertGreater(min(met.get(word, 0) for word in ("house", "Clash", "NoName", "BadName")), 20)

    def test_great_houses(self):
        where = full_house(random.Random(28))
        begun = time.perf_counter()
        met = 0
        for place in oracle.places(where)[::25]:
            due = oracle.goal(where, place)
            if due is not None and due[0] != "file":
                met += 1
                after = led(where, place, "zy")
                same(self, led(after, uses(after, place)[0], due[-1]), where)
        self.assertGreater(met, 10)
        self.assertLess(time.perf_counter() - begun, 60)


if __name__ == "__main__":
    unittest.main()
