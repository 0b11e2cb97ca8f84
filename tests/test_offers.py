"""Point [12]: the words that are offered at a place."""

import random
import time
import unittest

import oracle
import oracle_faults
from chances import faulty_house, full_house
from helpers import listed, same, told_anew
from test_faults import house
from typedahead import offers as offers_file
from typedahead.errors import NoName
from typedahead.faults import faults
from typedahead.offers import offers

KINDS = 'let n = 1\nlet w = "x"\nlet f = yes\nlet ns = [1]\nlet ws = ["x"]\nlet fs = [yes]\ndef d(n num) = n'


class TestOffers(unittest.TestCase):
    def told(self, row, wanted, *texts):
        """Checks what is offered where a ^ stands in the row, ahead of the first file's other rows."""
        column = row.index("^")
        texts = texts or (KINDS,)
        where = house(row.replace("^", "") + "\n" + texts[0], *texts[1:])
        same(self, (row, offers(where, ("aa", 0, column))), (row, wanted))

    def test_defined_in_their_file(self):
        self.assertEqual(offers.__module__, offers_file.__name__)

    def test_words_of_each_kind_at_a_hole(self):
        self.told("let it = 1 + ^", ["n"])
        self.told('let it = "" & ^', ["w"])
        self.told("let it = if ^then 1 else 2", ["f", "no", "yes"])
        self.told("let it = ^at 0", ["fs", "ns", "ws"])
        self.told("let it = [1] = ^", ["ns"])
        self.told("let it = [^]", ["f", "n", "no", "w", "yes"])
        self.told('let it = ["", ^]', ["w"])
        self.told("let it = ^", ["f", "fs", "n", "no", "ns", "w", "ws", "yes"])
        self.told("let it = d(^)", ["n"])
        self.told("let it = if yes then 1 else ^", ["n"])

    def test_words_of_each_kind_at_a_name(self):
        self.told("let it = 1 + ^zz", ["n"])
        self.told('let it = "" & ^n', ["w"])
        self.told("let it = ^n + 1", ["n"])
        self.told("let it = [^n, 1] at 0", ["n"])
        self.told("let it = ^d", ["f", "fs", "n", "no", "ns", "w", "ws", "yes"])
        self.told("let it = d(d(^w))", ["n"])

    def test_words_of_an_unknown_kind(self):
        self.told("let it = 1 + ^", ["n", "u"], KINDS + "\nlet u = d(d)")
        self.told("let it = 1 + ^", ["h", "n", "r"], KINDS + "\nlet h = zz\nlet r = r")

    def test_begin(self):
        where = house("let it = \n" + KINDS)
        for begin, wanted in (("", ["f", "fs", "n", "no", "ns", "w", "ws", "yes"]), ("n", ["n", "no", "ns"]), ("no", ["no"]),
                              ("ns", ["ns"]), ("nsx", []), ("d", []), ("x", []), ("yes", ["yes"]), ("yess", []), ("N", [])):
            same(self, offers(where, ("aa", 0, 9), begin=begin), wanted)
        same(self, offers(where, ("aa", 0, 9)), offers(where, ("aa", 0, 9), begin=""))

    def test_params(self):
        self.told("def it(a num, b word, c) = 1 + ^", ["a", "c", "n"])
        self.told("def it(a num, b word, n word) = 1 + ^", ["a"])
        self.told("def it(a num, a word, d num) = 1 + ^", ["a", "d", "n"])
        self.told("def it(num, b num) = ^b + 1", ["b", "n"])

    def test_own_pieces_ahead_of_taken_ones(self):
        self.told("let it = 1 + ^", ["n", "x"], "take bb\nlet n = 2", 'let n = ""\nlet x = 1\nlet y = yes')
        self.told("let it = 1 + ^", [], 'take bb\nlet n = ""', "let n = 1")
        self.told("let it = 1 + ^", ["x"], "take bb\nlet n = yes", "take cc\nlet x = 1", "let y = 1")

    def test_unclear_ones_are_left_out(self):
        self.told("let it = 1 + ^", ["z"], "take bb\ntake cc", "let x = 1\nlet z = 1", "let x = 2\nlet y = yes")
        self.told("let it = 1 + ^", ["x", "y"], "take cc", 'let x = ""', "let x = 2\nlet y = 3")

    def test_def_pieces_are_left_out(self):
        self.told("let it = ^", ["no", "yes"], "def a(b num) = b")

    def test_ones_by_which_a_ring_would_come(self):
        self.told("let it = 1 + ^", ["b"], "let a = it\nlet b = 2\nlet c = [a] at 0")
        self.told("let it = ^it", ["b", "it", "no", "yes"], "let a = it\nlet b = 2")
        self.told("def it(a num) = ^", ["a", "b", "no", "yes"], "let b = 1\nlet c = it(1)")

    def test_ones_by_which_a_fault_elsewhere_would_come(self):
        self.told("let it = ^", ["a", "b"], 'let a = 1\nlet b = 2\nlet c = "x"\nlet d = it + 1')
        self.told("let it = ^", ["c"], 'let a = 1\nlet c = "x"\nlet d = it & ""')
        self.told("let it = ^b", ["b", "no", "yes"], 'let a = 1\nlet b = yes\nlet c = "x"\nlet d = if it then 1 else 2')
        same(self, offers(house("take bb\nlet it = ", "take aa\nlet b = it at 0"), ("aa", 1, 9)), [])

    def test_fault_elsewhere_that_was_told_ahead(self):
        self.told("let it = ^zz", ["c", "d", "no", "yes"], 'let c = "x"\nlet d = 1 & yes\n?')
        # The kind that is told there would be another one.
        self.told('let it = ^c', ["c"], 'let c = "x"\nlet d = it + 1\nlet e = yes\nlet f = [1]')

    def test_hole_at_a_token(self):
        self.told("let it = ^+ 1", ["n"])
        self.told("let it = ^;", ["f", "fs", "n", "no", "ns", "w", "ws", "yes"])
        self.told("let it = [1, ^, 2]", ["n"])
        self.told("let it = ^let x", ["f", "fs", "n", "no", "ns", "w", "ws", "yes"])

    def test_hole_ahead_of_which_the_sign_is_wanting(self):
        # The word would be what the row makes, or stand where the = is wanting still.
        self.told("let^", ["x"], "take bb", "let x = 1")
        self.told("let^", [], "take bb", "def x(n num) = n")
        self.told("let it^", [], "let a = 1")

    def test_rows_that_make_nothing(self):
        self.told("let = 1 + ^", ["n"])
        self.told("let = ^zz", ["f", "fs", "n", "no", "ns", "w", "ws", "yes"])
        same(self, offers(house("let a = 1\nlet a = 2 + "), ("aa", 1, 12)), ["a"])

    def test_too_long(self):
        for size, wanted in ((52, ["abc", "no", "x", "yes"]), (55, ["abc", "no", "x", "yes"]), (56, ["no", "x"]),
                             (57, ["x"]), (58, [])):
            row = "let it =" + " " * (size - 8)
            same(self, offers(house(row + "\nlet abc = 1\nlet x = 2"), ("aa", 0, size)), wanted)
        row = "let it = " + " " * 48 + "zzz"
        same(self, offers(house(row + "\nlet abcd = 1\nlet abcde = 2\nlet x = 2"), ("aa", 0, 57)), ["x"])

    def refused(self, where, place):
        for handed in (place, list(place)):
            with self.assertRaises(NoName) as told:
                offers(where, handed)
            same(self, told.exception.place, place)

    def test_refused(self):
        where = house("take bb\nlet a = f(b) + c\ndef f(b num) = b b\nx y\nlet e = d(\n let g", "let c = 1")
        right = {("aa", 1, 10): "b", ("aa", 1, 15): "c", ("aa", 2, 15): "b", ("aa", 4, 10): "", ("aa", 5, 6): ""}
        for file in ("aa", "bb", "cc", "", "take"):
            for row in range(-2, 7):
                for column in range(-2, 20):
                    if (file, row, column) in right:
                        offers(where, (file, row, column))
                    else:
                        self.refused(where, (file, row, column))

    def test_refused_at_each_sort_of_token(self):
        where = house("take bb\nlet a = f(b) + 1\ndef f(b num) = b b\nx y", "let c = 1")
        for place in (("aa", 0, 5), ("aa", 1, 4), ("aa", 1, 8), ("aa", 1, 15), ("aa", 2, 4), ("aa", 2, 6), ("aa", 2, 8),
                      ("aa", 2, 17), ("aa", 3, 0), ("aa", 3, 2), ("aa", 0, 0), ("aa", 1, 11), ("bb", 0, 4), ("aa", 1, 16)):
            self.refused(where, place)

    def test_refused_things_that_are_no_places(self):
        for thing in ((), ("aa",), ("aa", 0), ("aa", 0, 8, 1), ("aa", 0, None), ("aa", None, 8), (None, 0, 8)):
            self.refused(house("let a = b"), thing)

    def test_lists_for_tuples(self):
        where = house("let it = 1 + \n" + KINDS)
        same(self, offers(listed(where), ["aa", 0, 13]), ["n"])
        same(self, offers(place=("aa", 0, 13), house=where, begin="n"), ["n"])
        with self.assertRaises(TypeError):
            offers(where, ("aa", 0, 13), "n")

    def test_handed_in_stays_and_told_anew(self):
        where, place = listed(house("let it = \n" + KINDS)), ["aa", 0, 9]
        told_anew(self, lambda: offers(where, place))
        self.assertEqual((where, place), (listed(house("let it = \n" + KINDS)), ["aa", 0, 9]))

    def test_as_the_oracle_tells_it(self):
        chance = random.Random(25)
        met = set()
        for _ in range(150):
            where = faulty_house(chance)
            holes = [fault[0] for fault in faults(where) if fault[1] == "part"]
            places = oracle.places(where) + holes * 3
            for place in chance.sample(places, min(4, len(places))):
                begin = chance.choice(("", "", "a", "y"))
                wanted = oracle_faults.offers(where, place, begin)
                if wanted is None:
                    self.refused(where, place)
                else:
                    same(self, offers(where, place, begin=begin), wanted)
                    met.add(len(wanted))
        self.assertGreater(len(met), 5)

    def test_great_houses(self):
        where = full_house(random.Random(26))
        begun = time.perf_counter()
        met = set()
        for place, word, _ in faults(where):
            if word in ("part", "unknown") and place[1] > 20:
                met.add(len(offers(where, place)))
        self.assertGreater(max(met), 10)
        self.assertLess(time.perf_counter() - begun, 120)


if __name__ == "__main__":
    unittest.main()
