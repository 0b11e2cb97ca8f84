"""Point [8]: houses, their pieces, and what each name in them stands for."""

import random
import unittest

import oracle
from helpers import SIGNS, THINGS, listed, same, told_anew, tupled
from typedahead import names
from typedahead.errors import NoName
from typedahead.names import is_house, pieces, target, uses
from typedahead.words import HELD

HOUSE = (
    ("main", "take lib\ntake util\nlet a = b + c\ndef f(b num, b word) = b & a\nlet a = 1\n  let d = f(a, x) at y z"),
    ("lib", "let b = 1\ndef x(a num) = a\nlet y = 2\nlet y = b"),
    ("util", "let c = 2\nlet y = 3"),
    ("free", "let q = 1"),
)


def house(*texts):
    """A house with these texts, its files a, b, c and so on twice over."""
    return tuple((name * 2, text) for name, text in zip("abcdef", texts))


class TestIsHouse(unittest.TestCase):
    def yes(self, thing):
        self.assertIs(is_house(thing), True, thing)

    def no(self, thing):
        self.assertIs(is_house(thing), False, thing)

    def test_defined_in_their_file(self):
        for told in (is_house, target, uses, pieces):
            self.assertEqual(told.__module__, names.__name__)

    def test_one_file_to_six(self):
        pairs = tuple((name, "let a = 1") for name in "abcdefg")
        self.no(())
        for many in range(1, 7):
            self.yes(pairs[:many])
        self.no(pairs)
        self.no(pairs * 3)

    def test_texts(self):
        for text in ("", "\n", "x", "\n" * 23, "x" * 60, SIGNS[:60], "let a = 1\ntake nothing"):
            self.yes((("a", text),))
            self.yes((("b", "x"), ("a", text)))
        for text in ("\n" * 24, "x" * 61, "%", "\t", "\x7f", "\u00e9", "a\r\nb"):
            self.no((("a", text),))
            self.no((("b", "x"), ("a", text)))

    def test_one_name_twice(self):
        self.no((("a", ""), ("a", "")))
        self.no((("a", "x"), ("b", ""), ("a", "y")))
        self.yes((("a", "x"), ("b", "x"), ("aa", "x")))

    def test_names(self):
        for name in HELD + ("", "abcdefghi", "A", "a1", "a b", " a", "a\n", "\u00e9", '"a"'):
            self.no(((name, ""),))
            self.no((("a", ""), (name, "")))
        self.yes((("abcdefgh", ""), ("letx", "")))

    def test_lists_for_tuples(self):
        self.no([("a", "")])
        self.no((["a", ""],))
        self.no([["a", ""]])
        self.no((("a", ""), ["b", ""]))
        self.no(listed(HOUSE))

    def test_pairs_of_other_sizes(self):
        for pair in ((), ("a",), ("a", "", ""), ("a", "", 0)):
            self.no((pair,))
            self.no((("b", ""), pair))
        self.no(("a", ""))

    def test_things_of_any_kind(self):
        for thing in THINGS:
            self.no(thing)
            self.assertIs(is_house((thing,)), thing == ("a", "b"))
            self.assertIs(is_house((("a", thing),)), isinstance(thing, str))
            self.assertIs(is_house(((thing, ""),)), thing == "a")

    def test_handed_in_stays(self):
        thing = listed(HOUSE)
        is_house(thing)
        self.assertEqual(thing, listed(HOUSE))

    def test_argument_by_its_name(self):
        self.assertIs(is_house(thing=HOUSE), True)


class TestPieces(unittest.TestCase):
    def test_order_of_files_and_rows(self):
        same(self, pieces(HOUSE), [
            ("main", "a", 2), ("main", "f", 3), ("main", "d", 5), ("lib", "b", 0), ("lib", "x", 1), ("lib", "y", 2),
            ("util", "c", 0), ("util", "y", 1), ("free", "q", 0),
        ])
        same(self, [piece[0] for piece in pieces(HOUSE[::-1])], ["free"] + ["util"] * 2 + ["lib"] * 3 + ["main"] * 3)

    def test_name_made_twice(self):
        same(self, pieces(house("let a = 1\nlet a = 2\ndef a(b num) = b\nlet b = 1")), [("aa", "a", 0), ("aa", "b", 3)])
        same(self, pieces(house("def a(b num) = b\nlet a = 2")), [("aa", "a", 0)])
        same(self, pieces(house("let a = 1", "let a = 2")), [("aa", "a", 0), ("bb", "a", 0)])

    def test_rows_without_a_name(self):
        for row in ("let", "let = 1", "let 1", "let let = 1", "def", "def (a num) = a", "def 7", "let abcdefghi = 1"):
            same(self, pieces(house(row)), [])
            same(self, pieces(house(row + "\nlet a = 1")), [("aa", "a", 1)])

    def test_other_rows(self):
        same(self, pieces(house("take bb\n\n  \na = 1\nx\n= let a\nLet a = 1\ntake a", "")), [])

    def test_rows_with_stops_make_a_piece_all_the_same(self):
        for row in ("let a", "let a =", "let a 1", "let a = (1", "let a = 1 2", "let a = ;", "def a", "def a = 1",
                    "def a(", "def a() = 1 1", "let a let a"):
            same(self, pieces(house(row)), [("aa", "a", 0)])
            same(self, pieces(house(row + "\nlet a = 1")), [("aa", "a", 0)])

    def test_lists_for_tuples(self):
        same(self, pieces(listed(HOUSE)), pieces(HOUSE))

    def test_told_anew(self):
        told_anew(self, lambda: pieces(HOUSE))

    def test_argument_by_its_name(self):
        same(self, pieces(house=HOUSE), pieces(HOUSE))


class TestTarget(unittest.TestCase):
    def told(self, where, wanted):
        """Checks the targets of all name tokens of the house's first file, row by row."""
        found = {}
        for place in oracle.places(where):
            if place[0] == where[0][0]:
                found.setdefault(place[1], []).append(target(where, place))
        same(self, list(found.values()), wanted)

    def test_row_by_row(self):
        self.told(HOUSE, [
            [("file", "lib")],
            [("file", "util")],
            [("piece", "main", "a"), ("piece", "lib", "b"), ("piece", "util", "c")],
            [("piece", "main", "f"), ("param", "main", 3, "b"), None, ("param", "main", 3, "b"), ("piece", "main", "a")],
            [None],
            [("piece", "main", "d"), ("piece", "main", "f"), ("piece", "main", "a"), ("piece", "lib", "x"), None, None],
        ])

    def test_param_is_ahead_of_a_piece(self):
        self.told(house("def f(a num) = a + b\nlet a = 1\nlet b = 2"), [
            [("piece", "aa", "f"), ("param", "aa", 0, "a"), ("param", "aa", 0, "a"), ("piece", "aa", "b")],
            [("piece", "aa", "a")], [("piece", "aa", "b")],
        ])

    def test_first_param_of_a_name(self):
        self.told(house("def f(a num, b num, a word, a) = a"), [
            [("piece", "aa", "f"), ("param", "aa", 0, "a"), ("param", "aa", 0, "b"), None, None, ("param", "aa", 0, "a")],
        ])

    def test_params_are_their_rows_own(self):
        self.told(house("def f(a num) = a\ndef g(b num) = a\nlet h = b"), [
            [("piece", "aa", "f"), ("param", "aa", 0, "a"), ("param", "aa", 0, "a")],
            [("piece", "aa", "g"), ("param", "aa", 1, "b"), None],
            [("piece", "aa", "h"), None],
        ])

    def test_params_of_a_row_that_makes_nothing(self):
        self.told(house("let f = 1\ndef f(a num) = a + f\ndef (b num) = b"), [
            [("piece", "aa", "f")],
            [None, ("param", "aa", 1, "a"), ("param", "aa", 1, "a"), ("piece", "aa", "f")],
            [("param", "aa", 2, "b"), ("param", "aa", 2, "b")],
        ])

    def test_param_called_as_its_def(self):
        self.told(house("def f(f num) = f(f)"), [
            [("piece", "aa", "f"), ("param", "aa", 0, "f"), ("param", "aa", 0, "f"), ("param", "aa", 0, "f")]])

    def test_own_piece_is_ahead_of_a_taken_one(self):
        self.told(house("take bb\nlet c = b\nlet b = 1", "let b = 2"), [
            [("file", "bb")], [("piece", "aa", "c"), ("piece", "aa", "b")], [("piece", "aa", "b")]])

    def test_just_one_taken_file(self):
        for takes, wanted in (
            ("take bb", ("piece", "bb", "b")),
            ("take cc", ("piece", "cc", "b")),
            ("take bb\ntake bb", ("piece", "bb", "b")),
            ("take bb\ntake dd", ("piece", "bb", "b")),
            ("take bb\ntake cc", None),
            ("take cc\ntake bb\ntake cc", None),
            ("take dd", None),
            ("take aa", None),
            ("take zz", None),
            ("take", None),
            ("take bb cc", ("piece", "bb", "b")),
            ("x take bb", None),
            ("", None),
        ):
            where = house(takes + "\nlet a = b", "let b = 1", "let b = 2", "let d = 1")
            row = takes.count("\n") + 1
            same(self, target(where, ("aa", row, 8)), wanted)
            where = house("let a = b\n" + takes, "let b = 1", "let b = 2", "let d = 1")
            same(self, target(where, ("aa", 0, 8)), wanted)

    def test_taken_files_own_takes_do_not_count(self):
        where = house("take bb\nlet a = c", "take cc\nlet b = c", "let c = 1")
        same(self, target(where, ("aa", 1, 8)), None)
        same(self, target(where, ("bb", 1, 8)), ("piece", "cc", "c"))

    def test_two_files_that_take_one_another(self):
        where = house("take bb\nlet a = b", "take aa\nlet b = a")
        same(self, target(where, ("aa", 1, 8)), ("piece", "bb", "b"))
        same(self, target(where, ("bb", 1, 8)), ("piece", "aa", "a"))

    def test_takes(self):
        self.told(house("take bb\ntake aa\ntake zz\ntake cc\ntake bb bb\n take cc = cc", "", ""), [
            [("file", "bb")], [None], [None], [("file", "cc")], [("file", "bb"), None], [("file", "cc"), None]])

    def test_only_take_rows_take(self):
        for row in ("let bb = 1", "def bb(n num) = n", "let = bb", "x bb", "let a = bb", "tak bb", "take = bb"):
            where = house(row + "\nlet c = x", "let x = 1")
            same(self, target(where, ("aa", 1, 8)), None)
        same(self, target(house("take bb = 1\nlet c = x", "let x = 1"), ("aa", 1, 8)), ("piece", "bb", "x"))

    def test_file_called_as_a_piece(self):
        self.told(house("take bb\nlet bb = bb + aa", "let aa = 1"), [
            [("file", "bb")], [("piece", "aa", "bb"), ("piece", "aa", "bb"), ("piece", "bb", "aa")]])

    def test_making_names_that_make_nothing(self):
        self.told(house("let a = 1\nlet a = a\ndef a(b num) = a"), [
            [("piece", "aa", "a")], [None, ("piece", "aa", "a")],
            [None, ("param", "aa", 2, "b"), ("piece", "aa", "a")]])

    def test_beyond_what_was_read(self):
        self.told(house("let a = a a\nlet b = f(a) b\ntake bb a\nlet c a a\ndef d(e num x) = a e", ""), [
            [("piece", "aa", "a"), ("piece", "aa", "a"), None],
            [("piece", "aa", "b"), None, ("piece", "aa", "a"), None],
            [("file", "bb"), None],
            [("piece", "aa", "c"), ("piece", "aa", "a"), None],
            [("piece", "aa", "d"), ("param", "aa", 4, "e"), None, None, None]])

    def test_odd_rows(self):
        self.told(house("let a = 1\na = a\nx let a = a"), [[("piece", "aa", "a")], [None, None], [None, None, None]])

    def test_calls(self):
        self.told(house("def f(a num) = a\nlet b = f(b, c(f))\nlet c = 1"), [
            [("piece", "aa", "f"), ("param", "aa", 0, "a"), ("param", "aa", 0, "a")],
            [("piece", "aa", "b"), ("piece", "aa", "f"), ("piece", "aa", "b"), ("piece", "aa", "c"), ("piece", "aa", "f")],
            [("piece", "aa", "c")]])

    def test_every_part_of_a_row(self):
        row = "let x = [a, (b + c)] at if d then e else f(g) = h"
        told = [("piece", "aa", "x")] + [("piece", "aa", name) for name in "abcdefgh"]
        where = house(row + "\n" + "\n".join("let " + name + " = 1" for name in "abcdefgh"))
        same(self, [target(where, place) for place in oracle.places(where)][:9], told)

    def refused(self, where, place):
        for handed in (place, list(place)):
            for ask in (target, uses):
                with self.assertRaises(NoName) as told:
                    ask(where, handed)
                same(self, told.exception.place, place)

    def test_refused_where_no_name_begins(self):
        where = house("let abc = 1 + de\n\n  take bb\n\"a b\" c1", "let a = 1")
        begins = [("aa", 0, 4), ("aa", 0, 14), ("aa", 2, 7), ("aa", 3, 6), ("bb", 0, 4)]
        self.assertEqual(oracle.places(where), begins)
        for file in ("aa", "bb", "cc", "abc", ""):
            for row in range(-3, 26):
                for column in range(-3, 62) if row in range(-1, 5) else (0, 4):
                    if (file, row, column) in begins:
                        target(where, (file, row, column))
                    else:
                        self.refused(where, (file, row, column))

    def test_rows_and_columns_below_0_are_none(self):
        where = house("let a = b\nlet b = a")
        for place in (("aa", -1, 4), ("aa", -2, 4), ("aa", 0, -5), ("aa", 0, -1), ("aa", 1, -9)):
            self.refused(where, place)

    def test_lists_for_tuples(self):
        for place in oracle.places(HOUSE):
            same(self, target(listed(HOUSE), list(place)), target(HOUSE, place))
            same(self, target([list(pair) for pair in HOUSE], place), target(HOUSE, place))

    def test_handed_in_stays(self):
        where, place = listed(HOUSE), ["main", 2, 4]
        target(where, place)
        uses(where, place)
        pieces(where)
        self.assertEqual((where, place), (listed(HOUSE), ["main", 2, 4]))

    def test_arguments_by_their_names(self):
        same(self, target(house=HOUSE, place=("main", 0, 5)), ("file", "lib"))
        same(self, target(place=("main", 0, 5), house=HOUSE), ("file", "lib"))


class TestUses(unittest.TestCase):
    def test_told(self):
        for place, wanted in (
            (("main", 0, 5), [("main", 0, 5)]),
            (("main", 2, 4), [("main", 2, 4), ("main", 3, 27), ("main", 5, 12)]),
            (("main", 2, 8), [("main", 2, 8), ("lib", 0, 4), ("lib", 3, 8)]),
            (("main", 3, 6), [("main", 3, 6), ("main", 3, 23)]),
            (("main", 3, 4), [("main", 3, 4), ("main", 5, 10)]),
            (("lib", 1, 4), [("main", 5, 15), ("lib", 1, 4)]),
            (("lib", 2, 4), [("lib", 2, 4)]),
            (("free", 0, 4), [("free", 0, 4)]),
        ):
            same(self, uses(HOUSE, place), wanted)

    def test_order_of_files_rows_and_columns(self):
        where = house("take bb\nlet a = b + b\nlet c = b", "let d = b\nlet b = 1\nlet e = b", "take bb\nlet a = [b, b]")
        wanted = [("aa", 1, 8), ("aa", 1, 12), ("aa", 2, 8), ("bb", 0, 8), ("bb", 1, 4), ("bb", 2, 8),
                  ("cc", 1, 9), ("cc", 1, 12)]
        same(self, uses(where, ("bb", 1, 4)), wanted)
        same(self, uses(where[::-1], ("bb", 1, 4)), wanted[6:] + wanted[3:6] + wanted[:3])

    def test_of_a_file(self):
        where = house("take bb\ntake aa\nlet bb = bb\ntake bb x", "take bb\ntake aa", "take bb")
        same(self, uses(where, ("cc", 0, 5)), [("aa", 0, 5), ("aa", 3, 5), ("cc", 0, 5)])
        same(self, uses(where, ("bb", 1, 5)), [("bb", 1, 5)])

    def test_params_of_one_row_alone(self):
        where = house("def f(a num) = a + a\ndef g(a num) = a\nlet a = f(a)")
        same(self, uses(where, ("aa", 0, 6)), [("aa", 0, 6), ("aa", 0, 15), ("aa", 0, 19)])
        same(self, uses(where, ("aa", 1, 15)), [("aa", 1, 6), ("aa", 1, 15)])
        same(self, uses(where, ("aa", 2, 4)), [("aa", 2, 4), ("aa", 2, 10)])

    def test_same_list_from_each_of_them(self):
        for place in oracle.places(HOUSE):
            if target(HOUSE, place) is not None:
                told = uses(HOUSE, place)
                self.assertIn(place, told)
                for other in told:
                    same(self, target(HOUSE, other), target(HOUSE, place))
                    same(self, uses(HOUSE, other), told)

    def test_refused_where_nothing_stands_behind_the_name(self):
        where = house("let a = zz\ntake aa\ntake qq\nlet a = 1\nx y\nlet b = 1 b\ndef f(a num, a num) = 1")
        for place in oracle.places(where):
            if oracle.goal(where, place) is None:
                for handed in (place, list(place)):
                    with self.assertRaises(NoName) as told:
                        uses(where, handed)
                    same(self, told.exception.place, place)
        self.assertEqual(sum(oracle.goal(where, place) is None for place in oracle.places(where)), 8)

    def test_lists_for_tuples(self):
        same(self, uses(listed(HOUSE), ["main", 2, 4]), uses(HOUSE, ("main", 2, 4)))

    def test_told_anew(self):
        told_anew(self, lambda: uses(HOUSE, ("main", 2, 4)))

    def test_arguments_by_their_names(self):
        same(self, uses(place=("main", 0, 5), house=HOUSE), [("main", 0, 5)])


class TestByChance(unittest.TestCase):
    def test_as_the_oracle_tells_it(self):
        chance = random.Random(9)
        for _ in range(120):
            where = oracle.chance_house(chance)
            self.assertIs(is_house(where), True)
            same(self, pieces(where), oracle.made(where))
            goals = {place: oracle.goal(where, place) for place in oracle.places(where)}
            for place in goals:
                same(self, target(where, place), goals[place])
                if goals[place] is not None:
                    same(self, uses(where, place), [other for other in goals if goals[other] == goals[place]])

    def test_each_answer_is_that_of_its_house_alone(self):
        chance = random.Random(10)
        first, second = oracle.chance_house(chance), oracle.chance_house(chance)
        for where in (first, second, first, second[::-1], second, first[:1], first):
            for place in oracle.places(where):
                same(self, target(tupled(listed(where)), place), oracle.goal(where, place))


if __name__ == "__main__":
    unittest.main()
