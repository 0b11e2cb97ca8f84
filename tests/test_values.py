"""Point [10]: the values of let pieces, reckoned."""

import random
import sys
import time
import unittest

import oracle
from helpers import listed, same, told_anew
from test_kinds import great_house
from typedahead import values as values_file
from typedahead.names import is_house
from typedahead.values import values


def house(*texts):
    """A house with these texts, its files called aa, bb and so on."""
    return tuple((name * 2, text) for name, text in zip("abcdef", texts))


def value_in(where, name="it"):
    return [value for _, told, value in values(where) if told == name][0]


def value_of(part, *rows):
    """The value of a part beside these rows."""
    where = house("\n".join(["let it = " + part, *rows]))
    assert is_house(where), where
    return value_in(where)


class TestValues(unittest.TestCase):
    def told(self, cases, *rows):
        for part, wanted in cases:
            same(self, (part, value_of(part, *rows)), (part, wanted))

    def test_defined_in_their_file(self):
        self.assertEqual(values.__module__, values_file.__name__)

    def test_order_and_let_pieces_alone(self):
        where = house('let b = 1\ndef f(a num) = a\nlet a = "x"\nlet b = 2\nlet = 3\nb = 1\ntake bb', "let b = yes\nlet a =")
        same(self, values(where), [("aa", "b", 1), ("aa", "a", "x"), ("bb", "b", True), ("bb", "a", None)])
        same(self, values(where[::-1]), [("bb", "b", True), ("bb", "a", None), ("aa", "b", 1), ("aa", "a", "x")])
        same(self, values(house("", "def f(a num) = a")), [])

    def test_single_parts(self):
        self.told([
            ("0", 0), ("007", 7), ("999999", 999999), ('""', ""), ('"a b"', "a b"), ('"7"', "7"), ("yes", True),
            ("no", False), ("(1)", 1), ('(("x"))', "x"), ("", None), (")", None), ("num", None), ("1234567", None),
            ('"x', None), ("()", None), ("zz", None),
        ])

    def test_numbers(self):
        self.told([
            ("1 + 2", 3), ("1 - 2", -1), ("3 * 4", 12), ("1 + 2 * 3", 9), ("1 + (2 * 3)", 7), ("0 - 5 * 2", -10),
            ("2 - 3 - 4", -5), ("1 < 2", True), ("2 < 2", False), ("3 < 2", False), ("0 - 1 < 0", True),
            ("1 + 1 = 2", True), ("1 = 2", False), ("0 = 0", True),
        ])

    def test_numbers_at_the_bounds_and_beyond(self):
        self.told([
            ("999999 + 1", 1000000), ("999999 + 2", None), ("1000 * 1000", 1000000), ("1000 * 1000 + 1", None),
            ("1001 * 1000", None), ("0 - 999999 - 1", -1000000), ("0 - 999999 - 2", None),
            ("0 - 1000 * 1000", -1000000), ("0 - 1000 * 1001", None), ("999999 * 999999", None),
            ("999999 + 2 - 5", None), ("999999 + 2 < 5", None), ("999999 + 2 = 5", None), ("[1] at (999999 + 2)", None),
            ("1000 * 1000 - 1 + 1", 1000000), ("1000 * 1000 < 1", False),
        ])

    def test_texts(self):
        self.told([
            ('"a" & "b"', "ab"), ('"" & ""', ""), ('"a " & " b" & "c"', "a  bc"), ('"a" = "a"', True),
            ('"a" = "b"', False), ('"a" = "a "', False), ('"a" & "b" = "ab"', True),
        ])

    def test_texts_of_200_signs_and_201(self):
        rows = ['let t = "' + "x" * 50 + '"', "let h = t & t", "let q = h & h"]
        self.told([("q", "x" * 200), ('q & ""', "x" * 200), ('"" & q', "x" * 200), ('q & "y"', None), ('"y" & q', None),
                   ("h & h", "x" * 200), ("h & h & t", None), ('(q & "y") = q', None), ("q = q", True)], *rows)

    def test_unfit_for_a_sign(self):
        things = {"num": "1", "word": '"x"', "flag": "yes", "nums": "[1]", "words": '["x"]', "flags": "[no]"}
        for sign, wanted in (("+", "num"), ("-", "num"), ("*", "num"), ("<", "num"), ("&", "word")):
            for left, first in things.items():
                for right, second in things.items():
                    told = value_of(first + " " + sign + " " + second)
                    self.assertEqual(told is not None, left == right == wanted, (first, sign, second))

    def test_alike_ones(self):
        things = ["1", '"x"', "yes", "[1]", '["x"]', "[yes]"]
        for left in things:
            for right in things:
                same(self, value_of(left + " = " + right), True if left == right else None)
        self.told([
            ("1 = yes", None), ("0 = no", None), ("[1] = [yes]", None), ("[1, 2] = [1, 2]", True), ("[1] = [2]", False),
            ("[1] = [1, 1]", False), ("yes = no", False), ('["a"] = ["b"]', False), ("1 = 1 = yes", True),
            ("1 = 2 = no", True), ("1 = 1 = 1", None),
        ])

    def test_lists(self):
        self.told([
            ("[1]", [1]), ("[1, 2 + 3]", [1, 5]), ('["a", "b" & "c"]', ["a", "bc"]), ("[yes, no, 1 < 2]", [True, False, True]),
            ('[1, "a"]', None), ("[yes, 1]", None), ("[1, yes]", None), ("[0, no]", None), ("[[1]]", None),
            ("[[1], [2]]", None), ("[1, [1]]", None), ("[[1], 1]", None), ("[]", None), ("[1, ]", None), ("[zz]", None),
            ("[(1), (2)]", [1, 2]), ("[1, 2", [1, 2]), ("[999999 + 2]", None),
        ])

    def test_list_places(self):
        self.told([
            ("[5, 6, 7] at 0", 5), ("[5, 6, 7] at 2", 7), ("[5, 6, 7] at 3", None), ("[5, 6, 7] at (0 - 1)", None),
            ("[5, 6, 7] at (0 - 3)", None), ('["a"] at 0', "a"), ("[no] at 0", False), ("[5] at yes", None),
            ("[5, 6] at no", None), ('[5] at "0"', None), ("5 at 0", None), ('"abc" at 1', None), ("yes at 0", None),
            ("[5] at [0]", None), ("[5] at 0 at 0", None), ("[5, 6] at [1, 0] at 0", None), ("[5, 6] at ([1, 0] at 0)", 6),
            ("[5] at 999999", None), ("[[5]] at 0", None), ("[5, yes] at 0", None),
        ])

    def test_ifs(self):
        self.told([
            ("if yes then 1 else 2", 1), ("if no then 1 else 2", 2), ("if 1 < 2 then 1 else 2", 1),
            ("if 1 then 1 else 2", None), ('if "x" then 1 else 2', None), ("if [yes] then 1 else 2", None),
            ("if zz then 1 else 2", None), ("if then 1 else 2", None), ('if yes then 1 else "x"', 1),
            ('if no then 1 else "x"', "x"), ("if no then 1 else 2 + 3", 5), ("if yes then 1 else 2 + 3", 1),
            ("(if yes then 1 else 2) + 3", 4), ("[if yes then 1 else zz]", [1]),
        ])

    def test_ifs_part_that_is_not_due(self):
        rows = ["let r = r", "def g(a num) = g(a)", "let big = 999999 + 2", "let o ="]
        for part in ("zz", "", "r", "g(1)", "big", "o", '1 + "x"', "[1] at 1", "[]", "f()", "zz(1)", "[[1]]", "999999 + 2"):
            same(self, value_of("if yes then 7 else " + part, *rows), 7)
            same(self, value_of("if no then " + part + " else 7", *rows), 7)
            same(self, value_of("if no then 7 else " + part, *rows), None)
            same(self, value_of("if yes then " + part + " else 7", *rows), None)

    def test_names(self):
        rows = ["let a = b + 1", "let b = 2", 'let w = "x"', "let l = [b, a]", "def f(a num) = a", "let o = zz"]
        self.told([
            ("a", 3), ("b", 2), ("w & w", "xx"), ("l", [2, 3]), ("l at 1", 3), ("f", None), ("o", None), ("a + o", None),
            ("a = 3", True), ("a + w", None), ("b(1)", None), ("w()", None), ("zz(1)", None),
        ], *rows)

    def test_names_of_other_files(self):
        where = house("take bb\ntake cc\nlet it = b\nlet x = y\nlet z = f(b)", "let b = c + 1\ntake cc\nlet y = 1",
                      "let c = 5\nlet y = 2\ndef f(a num) = a * c")
        same(self, values(where), [
            ("aa", "it", 6), ("aa", "x", None), ("aa", "z", 30), ("bb", "b", 6), ("bb", "y", 1), ("cc", "c", 5),
            ("cc", "y", 2)])

    def test_names_stand_for_what_they_do_in_their_own_row(self):
        where = house("take bb\nlet it = f(1)\nlet n = 10", "def f(a num) = a + n + g(n)\nlet n = 2\ndef g(n num) = n * 3")
        same(self, value_in(where), 9)

    def test_calls(self):
        rows = [
            "def inc(a num) = a + 1", "def pick(a num, b word, c flag) = if c then a else b", "def any(a, b) = a = b",
            "def two(a num, a word) = a", "def none(num) = 7", "def first(a nums) = a at 0", "let n = 3", "def bad(a num) = a + w",
            'let w = "x"', "def deep(a num) = inc(inc(a)) * n",
        ]
        self.told([
            ("inc(1)", 2), ("inc(inc(1))", 3), ("inc(n)", 4), ("inc(1, 2)", None), ("inc()", None), ("inc", None),
            ('inc("x")', None), ("inc(yes)", None), ("inc([1])", None), ("inc(zz)", None), ("inc(999999)", 1000000),
            ("inc(999999 + 1)", None), ('pick(1, "x", yes)', 1), ('pick(1, "x", no)', "x"), ('pick("x", 1, yes)', None),
            ('pick(1, "x", 1)', None), ('pick(1, 2, yes)', None), ("any(1, 1)", True), ('any("x", "y")', False),
            ("any(1, yes)", None), ("any([1], [1])", True), ('two(1, "x")', 1), ("two(1, 2)", None), ('two("x", "x")', None),
            ("none(1)", 7), ("none(yes)", None), ("none()", None), ("first([4, 5])", 4), ("first([yes])", None),
            ('first(["x"])', None), ("first(4)", None), ("bad(1)", None), ("deep(2)", 12), ("inc(1) + inc(2)", 5),
            ("[inc(1), inc(2)]", [2, 3]), ("n(1)", None), ("zz(1)", None),
        ], *rows)

    def test_params_of_each_told_kind(self):
        things = {"num": "1", "word": '"x"', "flag": "yes", "nums": "[1]", "words": '["x"]', "flags": "[no]"}
        for kind in things:
            for other, thing in things.items():
                told = value_of("f(" + thing + ")", "def f(a " + kind + ") = 7")
                same(self, told, 7 if kind == other else None)
        for thing in things.values():
            same(self, value_of("f(" + thing + ")", "def f(a) = 7"), 7)
            same(self, value_of("f(" + thing + ")", "def f = 7"), 7)

    def test_param_that_is_called_or_is_not_there(self):
        self.told([("f(1)", None), ("g(1)", None), ("h(1)", None)],
                  "def f(a num) = a(1)", "def g(a num) = b", "def h(b num) = g(b)", "def a(b num) = b")

    def test_params_that_are_not_used_are_reckoned_all_the_same(self):
        self.told([("f(zz)", None), ("f(1 + yes)", None), ("f([])", None), ("f(r)", None), ("f(1)", 7)],
                  "def f(a) = 7", "let r = r")

    def test_rings(self):
        rows = ["let a = b", "let b = a + 1", "let c = a", "def f(n num) = if n < 1 then 0 else f(n - 1)", "let d = f(0)",
                "def g(n num) = h(n)", "def h(n num) = if yes then 1 else g(n)"]
        self.told([("a", None), ("b", None), ("c", None), ("d", None), ("f(0)", None), ("g(1)", None), ("h(1)", None),
                   ("it", None), ("if yes then 1 else it", None), ("if yes then 1 else a", 1)], *rows)

    def test_rows_with_stops(self):
        for row, wanted in (("let it 1", 1), ("let it = (1", 1), ("let it = 1 2", 1), ("let it = 1 +", None),
                            ("let it = if yes then 1", 1), ("let it = if yes 1 2", 1), ("let it", None), ("let it = 1)", 1)):
            same(self, value_in(house(row)), wanted)

    def test_lists_for_tuples(self):
        where = house("let a = [b]\nlet b = f(1)\ndef f(a num) = a")
        same(self, values(listed(where)), values(where))

    def test_handed_in_stays(self):
        where = listed(house("let a = [b]\nlet b = 1"))
        values(where)
        self.assertEqual(where, listed(house("let a = [b]\nlet b = 1")))

    def test_told_lists_are_the_askers_own(self):
        where = house("let a = [1, 2]\nlet b = a\nlet c = f(a)\ndef f(x nums) = x\nlet d = if yes then b else c\nlet e = (a)")
        told_anew(self, lambda: values(where))
        same(self, [value for _, _, value in values(where)], [[1, 2]] * 5)

    def test_argument_by_its_name(self):
        same(self, values(house=house("let a = 1")), [("aa", "a", 1)])


def filling(many):
    """Rows that make p, which is 1; in its part so many parts are looked at."""
    rows, name = [], "p"
    for letter in "abcdefghijklmno":
        if many <= 21:
            break
        rows.append("let {} = {}p{}{}".format(name, "(" * 20, letter, ")" * 20))
        many, name = many - 21, "p" + letter
    return rows + ["let {} = {}1{}".format(name, "(" * (many - 1), ")" * (many - 1))]


class TestPartsLookedAt(unittest.TestCase):
    def told(self, part, many, wanted, *rows):
        """Checks a part in which so many parts are looked at beside others, 200 and 201 in all."""
        # Looked at besides are the if, the =, p, all of p's part, and the 1.
        whole = "if p = 1 then " + part + " else 0"
        same(self, value_of(whole, *rows, *filling(200 - 4 - many)), wanted)
        same(self, value_of(whole, *rows, *filling(200 - 5 - many)), wanted)
        same(self, value_of(whole, *rows, *filling(201 - 4 - many)), None)
        same(self, value_of(whole, *rows, *filling(202 - 4 - many)), None)

    def test_of_the_piece_itself(self):
        for many, wanted in ((1, 1), (20, 1), (21, 1), (22, 1), (100, 1), (199, 1), (200, 1), (201, None), (202, None)):
            same(self, value_in(house("\n".join(filling(many))), "p"), wanted)
        same(self, value_of("p", *filling(199)), 1)
        same(self, value_of("p", *filling(200)), None)

    def test_of_each_sort(self):
        for part, many, wanted in (
            ("1", 1, 1), ('"a"', 1, "a"), ("yes", 1, True), ("(((1)))", 4, 1), ("[1, 2, 3]", 4, [1, 2, 3]),
            ('"a" & "b"', 3, "ab"), ("1 + 2 * 3", 5, 9), ("[5, 6] at 1", 5, 6), ("1 = 2", 3, False), ("2 < 1", 3, False),
        ):
            self.told(part, many, wanted)

    def test_let_pieces_each_time_anew(self):
        rows = ["let x = 1 + 1", "let y = x * x"]
        self.told("x", 4, 2, *rows)
        self.told("x + x", 9, 4, *rows)
        self.told("y", 10, 4, *rows)
        self.told("[y, y, x]", 25, [4, 4, 2], *rows)

    def test_calls(self):
        rows = ["let x = 1 + 1", "def f(a num, b) = b", "def g(a num) = if a < 1 then a else [7]"]
        self.told("f(1, 2)", 4, 2, *rows)
        self.told("f(x, x)", 10, 2, *rows)
        self.told("f(x, f(x, 5))", 13, 5, *rows)
        self.told("g(0)", 7, 0, *rows)
        self.told("g(2)", 8, [7], *rows)

    def test_of_an_if_just_what_is_due(self):
        rows = ["let x = 1 + 1"]
        self.told("if yes then 1 else x + x + x", 3, 1, *rows)
        self.told("if no then x + x + x else (1)", 4, 1, *rows)
        self.told("if 1 < x then x else x + x + x", 1 + 6 + 4, 2, *rows)

    def chain(self, form):
        """A house of 138 pieces, each naming the next one in that form, the last one 7."""
        names = [left + right + "q" for left in "abcdef" for right in "ghijklmnopqrstuvwxyzabc"]
        rows = [form.format(name, other) for name, other in zip(names, names[1:])] + ["let " + names[-1] + " = 7"]
        texts = ["take " + "bcdefa"[at] * 2 + "\n" + "\n".join(rows[at * 23:at * 23 + 23]) for at in range(6)]
        return house(*texts)

    def test_long_chains(self):
        same(self, [value for _, _, value in values(self.chain("let {} = {}"))], [7] * 138)
        same(self, [value for _, _, value in values(self.chain("let {} = ({})"))], [None] * 38 + [7] * 100)
        same(self, [value for _, _, value in values(self.chain("let {} = {} + 0"))], [None] * 71 + [7] * 67)

    def test_no_deep_calls_are_needed(self):
        limit = sys.getrecursionlimit()
        sys.setrecursionlimit(450)
        try:
            told = value_of("p", *filling(199))
        finally:
            sys.setrecursionlimit(limit)
        same(self, told, 1)

    def test_no_more_is_reckoned_than_200_parts(self):
        rows = ["let {} = {}".format(name, " + ".join([other] * 4))
                for name, other in zip("abcdefghijklmnopqrst", "bcdefghijklmnopqrstu")] + ["let u = 0"]
        begun = time.perf_counter()
        told = values(house("\n".join(rows)))
        # 1 part is looked at in u's, 11 in t's, 51 in s's, 211 would be in r's.
        self.assertEqual([value for _, _, value in told], [None] * 18 + [0, 0, 0])
        self.assertLess(time.perf_counter() - begun, 10)


class TestGreatHouses(unittest.TestCase):
    def test_ring_of_sixty_through_all_files(self):
        where = great_house(60)
        begun = time.perf_counter()
        told = values(where)
        self.assertEqual(len(told), 114)
        self.assertEqual({value for _, _, value in told}, {None})
        self.assertLess(time.perf_counter() - begun, 60)


class TestByChance(unittest.TestCase):
    def test_as_the_oracle_tells_it(self):
        chance = random.Random(14)
        met = set()
        for _ in range(200):
            where = oracle.chance_house(chance)
            made = [piece[:2] for piece in oracle.made(where)]
            lets = [piece for piece in made if oracle.part_of(where, *piece)[1][0] == "let"]
            wanted = [(*piece, oracle.value(where, *piece, [0])) for piece in lets]
            same(self, values(where), wanted)
            met.update(type(value) for _, _, value in wanted)
        self.assertEqual(met, {type(None), int, str, bool, list})

    def test_each_answer_is_that_of_its_house_alone(self):
        chance = random.Random(15)
        first, second = oracle.chance_house(chance), oracle.chance_house(chance)
        wanted = {where: values(where) for where in (first, second)}
        for where in (first, second, second, first):
            same(self, values(where), wanted[where])


if __name__ == "__main__":
    unittest.main()
