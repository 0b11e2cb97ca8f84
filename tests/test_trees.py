"""Point [6]: rows read as trees, and what is wanting in them."""

import random
import unittest

from helpers import same, told_anew
from typedahead import trees
from typedahead.tokens import tokens
from typedahead.trees import stops, tree
from typedahead.words import HELD, KINDS

OPERATORS = ("+", "-", "*", "&", "=", "<", "at")

# Rows without a fault, with their trees.
RIGHT = [
    ("take lib", ("take", 1)),
    ("let a = 1", ("let", 1, ("lone", 3))),
    ('let a = "x y"', ("let", 1, ("lone", 3))),
    ("let a = yes", ("let", 1, ("lone", 3))),
    ("let a = no", ("let", 1, ("lone", 3))),
    ("let a = b", ("let", 1, ("name", 3))),
    ("let a = f(1)", ("let", 1, ("call", 3, (("lone", 5),)))),
    ("let a = f (1)", ("let", 1, ("call", 3, (("lone", 5),)))),
    ("let a = f(1, b, no)", ("let", 1, ("call", 3, (("lone", 5), ("name", 7), ("lone", 9))))),
    ("let a = [1]", ("let", 1, ("list", 3, (("lone", 4),)))),
    ("let a = [1, b]", ("let", 1, ("list", 3, (("lone", 4), ("name", 6))))),
    ("let a = [[1], [2]]", ("let", 1, ("list", 3, (("list", 4, (("lone", 5),)), ("list", 8, (("lone", 9),)))))),
    ("let a = (1)", ("let", 1, ("round", 3, ("lone", 4)))),
    ("let a = ((b))", ("let", 1, ("round", 3, ("round", 4, ("name", 5))))),
    ("let a = 1 + 2", ("let", 1, ("op", 4, ("lone", 3), ("lone", 5)))),
    ("let a = 1 + 2 * 3", ("let", 1, ("op", 6, ("op", 4, ("lone", 3), ("lone", 5)), ("lone", 7)))),
    ("let a = 1 = 2 < 3", ("let", 1, ("op", 6, ("op", 4, ("lone", 3), ("lone", 5)), ("lone", 7)))),
    ("let a = 1 + (2 * 3)",
     ("let", 1, ("op", 4, ("lone", 3), ("round", 5, ("op", 7, ("lone", 6), ("lone", 8)))))),
    ("let a = [1, 2] at 0 + 1",
     ("let", 1, ("op", 10, ("op", 8, ("list", 3, (("lone", 4), ("lone", 6))), ("lone", 9)), ("lone", 11)))),
    ("let a = if b then 1 else 2", ("let", 1, ("if", 3, ("name", 4), ("lone", 6), ("lone", 8)))),
    ("let a = if b < 1 then 1 + 2 else 3 + 4",
     ("let", 1, ("if", 3, ("op", 5, ("name", 4), ("lone", 6)), ("op", 9, ("lone", 8), ("lone", 10)),
                 ("op", 13, ("lone", 12), ("lone", 14))))),
    ("let a = 1 + if b then 2 else 3 + 4",
     ("let", 1, ("op", 4, ("lone", 3),
                 ("if", 5, ("name", 6), ("lone", 8), ("op", 11, ("lone", 10), ("lone", 12)))))),
    ("let a = if if b then c else d then e else if f then g else h",
     ("let", 1, ("if", 3, ("if", 4, ("name", 5), ("name", 7), ("name", 9)), ("name", 11),
                 ("if", 13, ("name", 14), ("name", 16), ("name", 18))))),
    ("def f(a num) = a", ("def", 1, ((3, 4),), ("name", 7))),
    ("def f(a num, b words) = a + b",
     ("def", 1, ((3, 4), (6, 7)), ("op", 11, ("name", 10), ("name", 12)))),
    ("def f(a num, a num) = f(a, a)", ("def", 1, ((3, 4), (6, 7)), ("call", 10, (("name", 12), ("name", 14))))),
    ("let a = f(g(1) + 2, [h(3)])",
     ("let", 1, ("call", 3, (("op", 9, ("call", 5, (("lone", 7),)), ("lone", 10)),
                             ("list", 12, (("call", 13, (("lone", 15),)),)))))),
    ("let a = f(1) + f(2)",
     ("let", 1, ("op", 7, ("call", 3, (("lone", 5),)), ("call", 8, (("lone", 10),))))),
]

# Rows with faults: their trees and stops.
WRONG = [
    ("take", ("take", None), [("name", 1, "")]),
    ("take 7", ("take", None), [("name", 1, ""), ("extra", 1, "")]),
    ("take take", ("take", None), [("name", 1, ""), ("extra", 1, "")]),
    ("take abcdefghi", ("take", None), [("name", 1, ""), ("extra", 1, "")]),
    ("take a b c", ("take", 1), [("extra", 2, "")]),
    ("take a let b = 1", ("take", 1), [("extra", 2, "")]),
    ("let", ("let", None, ("hole", 1)), [("name", 1, ""), ("sign", 1, "="), ("part", 1, "")]),
    ("let a", ("let", 1, ("hole", 2)), [("sign", 2, "="), ("part", 2, "")]),
    ("let a =", ("let", 1, ("hole", 3)), [("part", 3, "")]),
    ("let = 1", ("let", None, ("lone", 2)), [("name", 1, "")]),
    ("let a 1", ("let", 1, ("lone", 2)), [("sign", 2, "=")]),
    ("let 1", ("let", None, ("lone", 1)), [("name", 1, ""), ("sign", 1, "=")]),
    ("let let = 1", ("let", None, ("hole", 1)),
     [("name", 1, ""), ("sign", 1, "="), ("part", 1, ""), ("extra", 1, "")]),
    ("let a = = 1", ("let", 1, ("op", 3, ("hole", 3), ("lone", 4))), [("part", 3, "")]),
    ("let a == 1", ("let", 1, ("op", 3, ("hole", 3), ("lone", 4))), [("part", 3, "")]),
    ("let a b", ("let", 1, ("name", 2)), [("sign", 2, "=")]),
    ("let a b = 1", ("let", 1, ("op", 3, ("name", 2), ("lone", 4))), [("sign", 2, "=")]),
    ("let a = 1 2", ("let", 1, ("lone", 3)), [("extra", 4, "")]),
    ("let a = b c", ("let", 1, ("name", 3)), [("extra", 4, "")]),
    ("let a = 1 +", ("let", 1, ("op", 4, ("lone", 3), ("hole", 5))), [("part", 5, "")]),
    ("let a = + 1", ("let", 1, ("op", 3, ("hole", 3), ("lone", 4))), [("part", 3, "")]),
    ("let a = +", ("let", 1, ("op", 3, ("hole", 3), ("hole", 4))), [("part", 3, ""), ("part", 4, "")]),
    ("let a = 1 + + 2", ("let", 1, ("op", 5, ("op", 4, ("lone", 3), ("hole", 5)), ("lone", 6))), [("part", 5, "")]),
    ("let a = at at", ("let", 1, ("op", 4, ("op", 3, ("hole", 3), ("hole", 4)), ("hole", 5))),
     [("part", 3, ""), ("part", 4, ""), ("part", 5, "")]),
    ("let a = (1", ("let", 1, ("round", 3, ("lone", 4))), [("sign", 5, ")")]),
    ("let a = (", ("let", 1, ("round", 3, ("hole", 4))), [("part", 4, ""), ("sign", 4, ")")]),
    ("let a = ()", ("let", 1, ("round", 3, ("hole", 4))), [("part", 4, "")]),
    ("let a = )", ("let", 1, ("hole", 3)), [("part", 3, ""), ("extra", 3, "")]),
    ("let a = (1))", ("let", 1, ("round", 3, ("lone", 4))), [("extra", 6, "")]),
    ("let a = (1, 2)", ("let", 1, ("round", 3, ("lone", 4))), [("sign", 5, ")"), ("extra", 5, "")]),
    ("let a = (1]", ("let", 1, ("round", 3, ("lone", 4))), [("sign", 5, ")"), ("extra", 5, "")]),
    ("let a = [", ("let", 1, ("list", 3, (("hole", 4),))), [("part", 4, ""), ("sign", 4, "]")]),
    ("let a = []", ("let", 1, ("list", 3, (("hole", 4),))), [("part", 4, "")]),
    ("let a = [1", ("let", 1, ("list", 3, (("lone", 4),))), [("sign", 5, "]")]),
    ("let a = [1,]", ("let", 1, ("list", 3, (("lone", 4), ("hole", 6)))), [("part", 6, "")]),
    ("let a = [,]", ("let", 1, ("list", 3, (("hole", 4), ("hole", 5)))), [("part", 4, ""), ("part", 5, "")]),
    ("let a = [1 2]", ("let", 1, ("list", 3, (("lone", 4),))), [("sign", 5, "]"), ("extra", 5, "")]),
    ("let a = [1]]", ("let", 1, ("list", 3, (("lone", 4),))), [("extra", 6, "")]),
    ("let a = [1)", ("let", 1, ("list", 3, (("lone", 4),))), [("sign", 5, "]"), ("extra", 5, "")]),
    ("let a = [(1]", ("let", 1, ("list", 3, (("round", 4, ("lone", 5)),))), [("sign", 6, ")")]),
    ("let a = ([1)", ("let", 1, ("round", 3, ("list", 4, (("lone", 5),)))), [("sign", 6, "]")]),
    ("let a = f(", ("let", 1, ("call", 3, (("hole", 5),))), [("part", 5, ""), ("sign", 5, ")")]),
    ("let a = f()", ("let", 1, ("call", 3, (("hole", 5),))), [("part", 5, "")]),
    ("let a = f(1", ("let", 1, ("call", 3, (("lone", 5),))), [("sign", 6, ")")]),
    ("let a = f(,2)", ("let", 1, ("call", 3, (("hole", 5), ("lone", 6)))), [("part", 5, "")]),
    ("let a = f)", ("let", 1, ("name", 3)), [("extra", 4, "")]),
    ("let a = 1(2)", ("let", 1, ("lone", 3)), [("extra", 4, "")]),
    ("let a = f[1]", ("let", 1, ("name", 3)), [("extra", 4, "")]),
    ("let a = if", ("let", 1, ("if", 3, ("hole", 4), ("hole", 4), ("hole", 4))),
     [("part", 4, ""), ("sign", 4, "then"), ("part", 4, ""), ("sign", 4, "else"), ("part", 4, "")]),
    ("let a = if b", ("let", 1, ("if", 3, ("name", 4), ("hole", 5), ("hole", 5))),
     [("sign", 5, "then"), ("part", 5, ""), ("sign", 5, "else"), ("part", 5, "")]),
    ("let a = if b then 1", ("let", 1, ("if", 3, ("name", 4), ("lone", 6), ("hole", 7))),
     [("sign", 7, "else"), ("part", 7, "")]),
    ("let a = if b 1 else 2", ("let", 1, ("if", 3, ("name", 4), ("lone", 5), ("lone", 7))), [("sign", 5, "then")]),
    ("let a = if b then 1 2", ("let", 1, ("if", 3, ("name", 4), ("lone", 6), ("lone", 7))), [("sign", 7, "else")]),
    ("let a = if b else 2", ("let", 1, ("if", 3, ("name", 4), ("hole", 5), ("lone", 6))),
     [("sign", 5, "then"), ("part", 5, "")]),
    ("let a = if then else", ("let", 1, ("if", 3, ("hole", 4), ("hole", 5), ("hole", 6))),
     [("part", 4, ""), ("part", 5, ""), ("part", 6, "")]),
    ("let a = then 1", ("let", 1, ("hole", 3)), [("part", 3, ""), ("extra", 3, "")]),
    ("let a = num", ("let", 1, ("hole", 3)), [("part", 3, ""), ("extra", 3, "")]),
    ("let a = ; 1", ("let", 1, ("hole", 3)), [("part", 3, ""), ("extra", 3, "")]),
    ("let a = 1234567", ("let", 1, ("hole", 3)), [("part", 3, ""), ("extra", 3, "")]),
    ('let a = "x', ("let", 1, ("hole", 3)), [("part", 3, ""), ("extra", 3, "")]),
    ('let a = "+', ("let", 1, ("hole", 3)), [("part", 3, ""), ("extra", 3, "")]),
    ("def", ("def", None, ((None, None),), ("hole", 1)),
     [("name", 1, ""), ("sign", 1, "("), ("name", 1, ""), ("told", 1, ""), ("sign", 1, ")"), ("sign", 1, "="),
      ("part", 1, "")]),
    ("def f", ("def", 1, ((None, None),), ("hole", 2)),
     [("sign", 2, "("), ("name", 2, ""), ("told", 2, ""), ("sign", 2, ")"), ("sign", 2, "="), ("part", 2, "")]),
    ("def f = 1", ("def", 1, ((None, None),), ("lone", 3)),
     [("sign", 2, "("), ("name", 2, ""), ("told", 2, ""), ("sign", 2, ")")]),
    ("def f() = 1", ("def", 1, ((None, None),), ("lone", 5)), [("name", 3, ""), ("told", 3, "")]),
    ("def f(a) = 1", ("def", 1, ((3, None),), ("lone", 6)), [("told", 4, "")]),
    ("def f(num) = 1", ("def", 1, ((None, 3),), ("lone", 6)), [("name", 3, "")]),
    ("def f(a let) = 1", ("def", 1, ((3, None),), ("hole", 4)),
     [("told", 4, ""), ("sign", 4, ")"), ("sign", 4, "="), ("part", 4, ""), ("extra", 4, "")]),
    ("def f(a b) = 1", ("def", 1, ((3, None),), ("name", 4)),
     [("told", 4, ""), ("sign", 4, ")"), ("sign", 4, "="), ("extra", 5, "")]),
    ("def f(a num,) = 1", ("def", 1, ((3, 4), (None, None)), ("lone", 8)), [("name", 6, ""), ("told", 6, "")]),
    ("def f(,) = 1", ("def", 1, ((None, None), (None, None)), ("lone", 6)),
     [("name", 3, ""), ("told", 3, ""), ("name", 4, ""), ("told", 4, "")]),
    ("def f(a num b word) = 1", ("def", 1, ((3, 4),), ("name", 5)),
     [("sign", 5, ")"), ("sign", 5, "="), ("extra", 6, "")]),
    ("def f(a num = 1", ("def", 1, ((3, 4),), ("lone", 6)), [("sign", 5, ")")]),
    ("def f(a num) 1", ("def", 1, ((3, 4),), ("lone", 6)), [("sign", 6, "=")]),
    ("def f(a num)", ("def", 1, ((3, 4),), ("hole", 6)), [("sign", 6, "="), ("part", 6, "")]),
    ("def (a num) = 1", ("def", None, ((2, 3),), ("lone", 6)), [("name", 1, "")]),
    ("def f a num = 1", ("def", 1, ((2, 3),), ("lone", 5)), [("sign", 2, "("), ("sign", 4, ")")]),
    ("def f(1 num) = a", ("def", 1, ((None, None),), ("lone", 3)),
     [("name", 3, ""), ("told", 3, ""), ("sign", 3, ")"), ("sign", 3, "="), ("extra", 4, "")]),
]

ODD = [
    "a", "a = 1", "=", "1", '"let"', "if", "then", "num", "at", "yes", "(let a = 1)", "letter a = 1", "le t a = 1",
    "Let a = 1", ";", '"', "abcdefghi", "1234567", "deff(a num) = 1", "taken b", "(take b", "else let a = 1",
]


class TestTree(unittest.TestCase):
    def test_defined_in_their_file(self):
        self.assertEqual((tree.__module__, stops.__module__), (trees.__name__, trees.__name__))

    def test_bare_rows(self):
        for row in ("", " ", "   ", " " * 60):
            same(self, tree(row), ("bare",))
            same(self, stops(row), [])

    def test_odd_rows(self):
        for row in ODD:
            same(self, tree(row), ("odd",))
            same(self, stops(row), [("start", 0, "")])

    def test_right_rows(self):
        for row, wanted in RIGHT:
            for told in (row, "  " + row.replace(" ", "  ") + " "):
                same(self, tree(told), wanted)
                same(self, stops(told), [])

    def test_wrong_rows(self):
        for row, wanted, wanting in WRONG:
            same(self, tree(row), wanted)
            same(self, stops(row), wanting)

    def test_each_operator(self):
        for first in OPERATORS:
            same(self, tree("let a = 1 " + first + " 2"), ("let", 1, ("op", 4, ("lone", 3), ("lone", 5))))
            for second in OPERATORS:
                row = "let a = b {} c {} d".format(first, second)
                same(self, tree(row), ("let", 1, ("op", 6, ("op", 4, ("name", 3), ("name", 5)), ("name", 7))))
                same(self, stops(row), [])

    def test_many_operators_from_the_left(self):
        row = "let a = " + "+".join("1" * 26)
        wanted = ("lone", 3)
        for number in range(4, 54, 2):
            wanted = ("op", number, wanted, ("lone", number + 1))
        same(self, tree(row), ("let", 1, wanted))

    def test_no_other_sign_is_an_operator(self):
        for sign in ("/", ">", "!", ".", "then", "if", "or", "^", "~"):
            self.assertIn(("extra", 4, ""), stops("let a = 1 " + sign + " 2"))

    def test_each_kind_and_no_other_word(self):
        for word in HELD:
            row = "def f(a " + word + ") = 1"
            if word in KINDS:
                same(self, tree(row), ("def", 1, ((3, 4),), ("lone", 7)))
                same(self, stops(row), [])
            else:
                self.assertIn(("told", 4, ""), stops(row))

    def test_many_params(self):
        pairs = ", ".join(name + " num" for name in "abcdefg")
        row = "def f(" + pairs + ") = 1"
        same(self, stops(row), [])
        same(self, tree(row), ("def", 1, tuple((at, at + 1) for at in range(3, 24, 3)), ("lone", 25)))

    def test_deep_brackets(self):
        for left, right, sort in (("(", ")", "round"), ("[", "]", "list")):
            for many in (1, 2, 20, 25):
                row = "let a = " + left * many + "1" + right * many
                same(self, tree(row), ("let", 1, self.deep(sort, many, ("lone", 3 + many))))
                same(self, stops(row), [])

    def deep(self, sort, many, inner):
        for number in range(2 + many, 2, -1):
            inner = (sort, number, inner if sort == "round" else (inner,))
        return inner

    def test_brackets_left_open_to_the_rows_end(self):
        for left, right, sort in (("(", ")", "round"), ("[", "]", "list")):
            many = 60 - len("let a=")
            same(self, tree("let a=" + left * many), ("let", 1, self.deep(sort, many, ("hole", 3 + many))))
            same(self, stops("let a=" + left * many), [("part", 3 + many, "")] + [("sign", 3 + many, right)] * many)

    def test_brackets_that_nothing_opened(self):
        same(self, stops("let a = " + ")" * 50), [("part", 3, ""), ("extra", 3, "")])
        same(self, stops("let a = ((1)" + ")" * 40), [("extra", 8, "")])

    def test_deep_calls_and_ifs(self):
        many = 26
        wanted = ("hole", 3 + 2 * many)
        for number in range(3 + 2 * (many - 1), 2, -2):
            wanted = ("call", number, (wanted,))
        same(self, tree("let a = " + "f(" * many), ("let", 1, wanted))
        same(self, stops("let a = " + "if " * 17)[0], ("part", 20, ""))
        self.assertEqual(len(stops("let a = " + "if " * 17)), 1 + 17 * 4)

    def test_told_anew(self):
        for row in ("let a = [1, f(2)]", "def f(a num) = a", "def", "x"):
            told_anew(self, lambda: tree(row))
            told_anew(self, lambda: stops(row))

    def test_argument_by_its_name(self):
        same(self, tree(row="let a = 1"), ("let", 1, ("lone", 3)))
        same(self, stops(row="let a ="), [("part", 3, "")])


def made_part(chance, out, depth):
    """Puts a part with its operators behind the texts in out; told is its tree."""
    told = last = made_single(chance, out, depth)
    # An operator behind an if is one of its last part's.
    while last[0] != "if" and chance.random() < 0.3:
        out.append(chance.choice(OPERATORS))
        number = len(out) - 1
        last = made_single(chance, out, depth)
        told = ("op", number, told, last)
    return told


def made_single(chance, out, depth):
    """Puts a single part behind the texts in out; told is its tree."""
    sort = chance.choice(("lone", "name", "call", "list", "round", "if") if depth else ("lone", "name"))
    number = len(out)
    if sort == "lone":
        out.append(chance.choice(("0", "999999", '"a b"', '""', "yes", "no")))
        return (sort, number)
    if sort == "name":
        out.append(chance.choice("abcxyz"))
        return (sort, number)
    if sort == "round":
        out.append("(")
        told = (sort, number, made_part(chance, out, depth - 1))
        out.append(")")
        return told
    if sort == "if":
        parts = []
        for word in ("if", "then", "else"):
            out.append(word)
            parts.append(made_part(chance, out, depth - 1))
        return (sort, number, *parts)
    out.extend(["f", "("] if sort == "call" else ["["])
    parts = [made_part(chance, out, depth - 1)]
    while chance.random() < 0.4:
        out.append(",")
        parts.append(made_part(chance, out, depth - 1))
    out.append(")" if sort == "call" else "]")
    return (sort, number, tuple(parts))


def mended(row):
    """The texts of the row's tokens with what is wanting put in, and without what is too much."""
    texts = [text for _, text, _ in tokens(row)]
    fill = {"name": "zz", "told": "num", "part": "0"}
    out = []
    for number, text in enumerate(texts + [None]):
        for word, at, sign in stops(row):
            if at == number and word == "extra":
                return out
            if at == number:
                out.append(sign if word == "sign" else fill[word])
        out.append(text)
    return out[:-1]


def shown(part, texts):
    """The tree with texts for its numbers, and with what mended puts in for what is wanting."""
    if part[0] == "hole":
        return ("lone", "0")
    if part[0] in ("lone", "name"):
        return (part[0], texts[part[1]])
    if part[0] in ("call", "list"):
        return (part[0], texts[part[1]], tuple(shown(own, texts) for own in part[2]))
    return (part[0], texts[part[1]], *[shown(own, texts) for own in part[2:]])


def shown_row(row):
    """As shown, of a whole row."""
    texts = [text for _, text, _ in tokens(row)]
    told = tree(row)
    name = "zz" if told[1] is None else texts[told[1]]
    if told[0] == "take":
        return ("take", name)
    if told[0] == "let":
        return ("let", name, shown(told[2], texts))
    params = tuple(("zz" if one is None else texts[one], "num" if kind is None else texts[kind])
                   for one, kind in told[2])
    return ("def", name, params, shown(told[3], texts))


class TestByChance(unittest.TestCase):
    def test_trees_written_out_are_read_again(self):
        chance = random.Random(6)
        for _ in range(500):
            out = ["let", "a", "="]
            wanted = made_part(chance, out, 3)
            if len(out) > 50:
                continue
            for row in (" ".join(out), "  ".join(out) + " "):
                same(self, tree(row), ("let", 1, wanted))
                same(self, stops(row), [])
            out[:3] = ["def", "f", "(", "a", "flags", ")", "="]
            same(self, tree(" ".join(out))[1:3], (1, ((3, 4),)))
            same(self, stops(" ".join(out)), [])

    def test_what_is_wanting_is_passed_over_as_if_it_stood_there(self):
        chance = random.Random(7)
        words = ("a", "b", "f", "1", '"x"', "yes", "(", "(", ")", ")", "[", "]", ",", "=", "+", "at", "if", "then",
                 "else", "num", "let", ";")
        for _ in range(3000):
            begin = chance.choice(("let", "let a =", "let a = f(", "def", "def f(", "def f(a num) =", "take"))
            row = begin + " " + " ".join(chance.choice(words) for _ in range(chance.randrange(14)))
            full = " ".join(mended(row))
            same(self, stops(full), [])
            same(self, shown_row(full), shown_row(row))

    def test_stops_stand_in_the_order_of_reading(self):
        for row, _, wanting in WRONG:
            numbers = [number for _, number, _ in wanting]
            self.assertEqual(numbers, sorted(numbers))
            same(self, [number for _, number, _ in stops(row)], numbers)


if __name__ == "__main__":
    unittest.main()
