"""Point [9]: the kinds of parts and pieces, and rings."""

import random
import time
import unittest

import oracle
from helpers import listed, same, told_anew
from typedahead import kinds
from typedahead.kinds import part_kinds, piece_kinds, ringed
from typedahead.names import is_house, pieces
from typedahead.words import KINDS


def house(*texts):
    """A house with these texts, its files called aa, bb and so on."""
    return tuple((name * 2, text) for name, text in zip("abcdef", texts))


# Pieces of each kind, and of none, called as the kind is but for one letter.
GIVEN = "\n".join([
    "let n = 1", 'let w = "x"', "let f = yes", "let ns = [1]", 'let ws = ["x"]', "let fs = [no]", "let o = zz",
    "def dn(a num) = 1", "def dns(a num, b word) = [a]", "def do(a num) = zz",
])
KIND = {"n": "num", "w": "word", "f": "flag", "ns": "nums", "ws": "words", "fs": "flags", "o": None}


def kind_of(part):
    """The kind of a part beside the given pieces, the part as a let piece's and as one of a row."""
    where = house(GIVEN + "\nlet it = " + part)
    told = [kind for _, name, _, kind in piece_kinds(where) if name == "it"][0]
    assert part_kinds(where, "aa", GIVEN.count("\n") + 1)[0][1] == told
    return told


class TestPartKinds(unittest.TestCase):
    def told(self, row, wanted, more="", number=0):
        same(self, part_kinds(house(row + "\n" + more), "aa", number), wanted)

    def test_defined_in_their_file(self):
        for told in (part_kinds, piece_kinds, ringed):
            self.assertEqual(told.__module__, kinds.__name__)

    def test_single_parts(self):
        for part, wanted in (
            ("0", "num"), ("999999", "num"), ('""', "word"), ('"1"', "word"), ("yes", "flag"), ("no", "flag"),
            ("n", "num"), ("w", "word"), ("f", "flag"), ("ns", "nums"), ("ws", "words"), ("fs", "flags"),
            ("o", None), ("zz", None), ("dn", None), ("dns", None), ("", None), (")", None), ("num", None),
            ("(1)", "num"), ('(("x"))', "word"), ("(zz)", None), ("(ns)", "nums"), ("()", None),
        ):
            same(self, kind_of(part), wanted)

    def test_calls(self):
        for part, wanted in (
            ("dn(1)", "num"), ("dn(yes)", "num"), ("dn(zz)", "num"), ("dn()", "num"), ("dn(1, 2, 3)", "num"),
            ("dns(1)", "nums"), ('dns(1, "x")', "nums"), ("do(1)", None), ("n(1)", None), ("ns(1)", None),
            ("zz(1)", None), ("it(1)", None),
        ):
            same(self, kind_of(part), wanted)

    def test_lists(self):
        for part, wanted in (
            ("[1]", "nums"), ('["x"]', "words"), ("[yes]", "flags"), ("[1, 2]", "nums"), ('[1, "x"]', "nums"),
            ('["x", 1]', "words"), ("[yes, 1]", "flags"), ("[zz, 1]", "nums"), ('[zz, "x", 1]', "words"),
            ("[[1]]", None), ("[[1], 2]", "nums"), ("[ns, ws]", None), ("[ns, f]", "flags"), ("[]", None),
            ("[, 1]", "nums"), ("[zz, ]", None), ("[zz]", None), ("[(1)]", "nums"), ("[1 < 2]", "flags"),
        ):
            same(self, kind_of(part), wanted)

    def test_ifs(self):
        for part, wanted in (
            ("if yes then 1 else 2", "num"), ('if yes then 1 else "x"', "num"), ('if yes then "x" else 1', "word"),
            ("if yes then zz else 2", "num"), ("if yes then 1 else zz", "num"), ("if yes then zz else zz", None),
            ("if 1 then 1 else 2", "num"), ("if zz then ns else 1", "nums"), ("if", None), ("if yes then else 1", "num"),
            ("if yes then zz else [yes]", "flags"),
        ):
            same(self, kind_of(part), wanted)

    def test_operators_but_at(self):
        for sign, wanted in (("+", "num"), ("-", "num"), ("*", "num"), ("&", "word"), ("<", "flag"), ("=", "flag")):
            for left in ("1", '"x"', "yes", "ns", "zz", ""):
                for right in ("1", '"x"', "yes", "ns", "zz", ""):
                    same(self, kind_of(left + " " + sign + " " + right), wanted)

    def test_at(self):
        for left, wanted in (
            ("ns", "num"), ("ws", "word"), ("fs", "flag"), ("[1]", "num"), ("[zz, yes]", "flag"), ("1", None),
            ('"x"', None), ("yes", None), ("zz", None), ("[zz]", None), ("[[1]]", None), ("", None),
            ("[[1]] at 0", None), ("ns at 0", None),
        ):
            for right in ("1", "zz", '"x"', ""):
                same(self, kind_of(left + " at " + right), wanted)

    def test_pairs_in_order(self):
        self.told("let a = 1", [(3, "num")])
        self.told("let a = (1 + b) * 2", [(8, "num"), (3, "num"), (5, "num"), (4, "num"), (6, None), (9, "num")])
        self.told('let a = f(1, ["x", yes], g(2))', [
            (3, None), (5, "num"), (7, "words"), (8, "word"), (10, "flag"), (13, "word"), (15, "num")],
            "def g(n num) = w\nlet w = \"\"")
        self.told("let a = if 1 < 2 then b else [3] at 0", [
            (3, "num"), (5, "flag"), (4, "num"), (6, "num"), (8, None), (13, "num"), (10, "nums"), (11, "num"),
            (14, "num")])
        self.told("def f(a num, b words) = b at a = c", [
            (13, "flag"), (11, "word"), (10, "words"), (12, "num"), (14, "flag")], "let c = no")

    def test_holes(self):
        self.told("let a =", [(3, None)])
        self.told("let", [(1, None)])
        self.told("let a = + 1", [(3, "num"), (3, None), (4, "num")])
        self.told("let a = 1 +", [(4, "num"), (3, "num"), (5, None)])
        self.told("let a = [, ]", [(3, None), (4, None), (5, None)])
        self.told("let a = if", [(3, None), (4, None), (4, None), (4, None)])
        self.told("let a = f()", [(3, None), (5, None)])
        self.told("def", [(1, None)])

    def test_rows_with_stops(self):
        self.told("let 1", [(1, "num")])
        self.told("let a (1", [(2, "num"), (3, "num")])
        self.told("let a = 1 2", [(3, "num")])
        self.told("let a = [1 + 2", [(3, "nums"), (5, "num"), (4, "num"), (6, "num")])
        self.told("def f = g", [(3, None)])
        self.told("def f(a) = a", [(6, None)])
        self.told("def f(a num) a", [(6, "num")])

    def test_rows_that_make_nothing(self):
        self.told("let a = 1\nlet a = a", [(3, "num")], number=1)
        self.told("let a = 1\ndef a(b word) = b & a(1)", [(8, "word"), (7, "word"), (9, None), (11, "num")], number=1)

    def test_other_rows(self):
        for row in ("", "  ", "take bb", "take", "a = 1", "x", "1 + 2", "= let a = 1"):
            self.told(row, [])

    def test_rows_and_files_that_are_not_there(self):
        where = house("let a = 1\nlet b = 2")
        for file, row in (("aa", -1), ("aa", -2), ("aa", 2), ("aa", 24), ("bb", 0), ("", 0)):
            same(self, part_kinds(where, file, row), [])

    def test_params(self):
        for kind in KINDS:
            self.told("def f(a " + kind + ") = a", [(7, kind)])
        self.told("def f(a num, a word) = a", [(10, "num")])
        self.told("def f(a, a word) = a", [(9, None)])
        self.told("def f(a num, num) = a", [(9, "num")])
        self.told("def f(a num) = [a, b]", [(7, "nums"), (8, "num"), (10, "word")], 'let a = yes\nlet b = "x"')
        self.told("def f(a num) = a(1)", [(7, None), (9, "num")], "def a(b num) = 1")

    def test_names_of_other_files(self):
        where = house("take bb\nlet a = b + c\nlet d = f(1)", "let b = yes\ndef f(x num) = c\nlet c = [b]", "let c = 1")
        same(self, part_kinds(where, "aa", 1), [(4, "num"), (3, "flag"), (5, "flags")])
        same(self, part_kinds(where, "aa", 2), [(3, "flags"), (5, "num")])

    def test_of_pieces_in_rings(self):
        self.told("let a = a + 1", [(4, "num"), (3, None), (5, "num")])
        self.told("let a = [b, 1]", [(3, "nums"), (4, None), (6, "num")], "let b = a at 0")

    def test_lists_for_tuples(self):
        where = house("let a = [b]\nlet b = 1")
        same(self, part_kinds(listed(where), "aa", 0), [(3, "nums"), (4, "num")])

    def test_told_anew(self):
        told_anew(self, lambda: part_kinds(house("let a = [b]\nlet b = 1"), "aa", 0))

    def test_arguments_by_their_names(self):
        same(self, part_kinds(row=0, file="aa", house=house("let a = 1")), [(3, "num")])


class TestPieceKinds(unittest.TestCase):
    def test_told(self):
        where = (
            ("main", 'take lib\nlet a = f(1) & "x"\ndef g(a num, b flags, c) = b\nlet a = yes\nlet h = g(1, b, 2)'),
            ("lib", "def f(num) = w\nlet w = \"\"\nlet = 1\nlet e = 1 < 2 = no\nlet p = f"),
        )
        same(self, piece_kinds(where), [
            ("main", "a", None, "word"), ("main", "g", ("num", "flags", None), "flags"), ("main", "h", None, "flags"),
            ("lib", "f", ("num",), "word"), ("lib", "w", None, "word"), ("lib", "e", None, "flag"),
            ("lib", "p", None, None),
        ])

    def test_params(self):
        for pairs, wanted in (
            ("(a num)", ("num",)), ("(a num, a word)", ("num", "word")), ("(a)", (None,)), ("()", (None,)),
            ("", (None,)), ("(words)", ("words",)), ("(,)", (None, None)), ("(a flag,", ("flag", None)),
            ("(a num, b word, c flag)", ("num", "word", "flag")), ("(a nums, b words, c flags", ("nums", "words", "flags")),
        ):
            told = piece_kinds(house("def f" + pairs + " = 1"))
            same(self, [piece[2] for piece in told], [wanted])

    def test_none_without_pieces(self):
        same(self, piece_kinds(house("", "x\ntake aa\nlet")), [])

    def test_kinds_by_way_of_many(self):
        rows = ["let " + name + " = " + other for name, other in zip("abcdefghijklmnopqrstuvw", "bcdefghijklmnopqrstuvwx")]
        for order in (1, -1):
            where = house("\n".join(rows[::order]), "let x = yes\nlet w = 1")
            same(self, [piece[3] for piece in piece_kinds(where)], [None] * 23 + ["flag", "num"])
            where = house("\n".join((rows[:-1] + ["take bb", "let w = [x]"])[::order]), "let x = yes")
            same(self, [piece[3] for piece in piece_kinds(where)], ["flags"] * 23 + ["flag"])

    def test_long_chain_of_deep_parts(self):
        names = [left + right + "q" for left in "abcdef" for right in "ghijklmnopqrstuvwxyzabc"]
        rows = ["let {} = {}{}{}".format(name, "(" * 21, other, ")" * 21) for name, other in zip(names, names[1:])]
        rows.append("let {} = [7]".format(names[-1]))
        texts = ["take " + "bcdefa"[at] * 2 + "\n" + "\n".join(rows[at * 23:at * 23 + 23]) for at in range(6)]
        where = house(*texts)
        self.assertIs(is_house(where), True)
        same(self, [piece[3] for piece in piece_kinds(where)], ["nums"] * len(pieces(where)))
        self.assertEqual(len(pieces(where)), 138)

    def test_lists_for_tuples(self):
        where = house("let a = b\ndef f(a num) = a", "let b = 1")
        same(self, piece_kinds(listed(where)), piece_kinds(where))
        same(self, ringed(listed(where)), ringed(where))

    def test_handed_in_stays(self):
        where = listed(house("let a = a\ndef f(a num) = a"))
        piece_kinds(where)
        part_kinds(where, "aa", 0)
        ringed(where)
        self.assertEqual(where, listed(house("let a = a\ndef f(a num) = a")))

    def test_told_anew(self):
        told_anew(self, lambda: piece_kinds(house("let a = b\ndef f(a num) = a", "let b = 1")))

    def test_argument_by_its_name(self):
        same(self, piece_kinds(house=house("let a = 1")), [("aa", "a", None, "num")])


class TestRinged(unittest.TestCase):
    def told(self, wanted, *texts):
        """Checks which pieces are in rings, called by the file's letter and their NAME."""
        where = house(*texts)
        for order in (1, -1):
            told = ringed(where[::order])
            same(self, sorted(told), [(each[0] * 2, each[1:]) for each in sorted(wanted.split())])
            same(self, told, [piece[:2] for piece in pieces(where[::order]) if piece[:2] in told])
            for file, name, _, kind in piece_kinds(where[::order]):
                if (file, name) in told:
                    self.assertIsNone(kind)

    def test_of_one_piece(self):
        self.told("aa", "let a = a")
        self.told("aa", "let a = a + 1")
        self.told("af", "def f(a num) = f(a)")
        self.told("af", "def f(a num) = f")
        self.told("aa", "let a = a(1)")

    def test_none(self):
        self.told("", "let a = 1\nlet b = a\nlet c = b + a")
        self.told("", "")
        self.told("", "def f(f num) = f")
        self.told("", "let a = b\nlet a = a\nlet b = 1")
        self.told("", "let a = 1 a\na = a\ntake a")

    def test_of_several(self):
        self.told("aa ab", "let a = b\nlet b = a")
        self.told("aa ab ac", "let a = 1 + b\ndef b(x num) = [c, x]\nlet c = a")
        self.told("aa ab ac ad", "let a = b\nlet b = a\nlet c = d\nlet d = c")

    def test_through_an_ifs_part_alone(self):
        self.told("aa ab", "let a = if yes then 1 else b\nlet b = if no then a else 1")
        self.told("af", "def f(n num) = if n < 1 then 0 else f(n - 1)")

    def test_through_files(self):
        self.told("aa bb cc", "take bb\nlet a = b", "take cc\nlet b = c", "take aa\nlet c = a\nlet d = 1")
        self.told("", "take bb\nlet a = b", "take cc\nlet b = c", "let c = a\nlet d = 1")
        self.told("bx", "take bb\nlet x = y", "take aa\nlet y = 1\nlet x = x")

    def test_what_hangs_on_a_ring_is_not_in_it(self):
        self.told("ab ac", "let a = b\nlet b = c\nlet c = b + d\nlet d = 1\nlet e = a")
        self.told("aa ab ad ae", "let a = b\nlet b = a + c\nlet c = d\nlet d = e\nlet e = d")
        where = house("let a = b\nlet b = c\nlet c = b + d\nlet d = 1\nlet e = [a]\nlet g = a + 1")
        same(self, [piece[3] for piece in piece_kinds(where)], [None, None, None, "num", None, "num"])

    def test_rows_with_stops(self):
        self.told("aa", "let a a")
        self.told("aa ab", "let a = (b\nlet b a b")

    def test_order_of_rows(self):
        same(self, ringed(house("let c = b\nlet b = a\nlet a = c")), [("aa", "c"), ("aa", "b"), ("aa", "a")])

    def test_told_anew(self):
        told_anew(self, lambda: ringed(house("let a = b\nlet b = a")))

    def test_argument_by_its_name(self):
        same(self, ringed(house=house("let a = a")), [("aa", "a")])


def great_house(many):
    """Six full files with one ring of so many pieces through all of them, each naming much besides."""
    letters = "abcdefghijklmnopqrstuvwxyz"
    names = [letters[at // 26] + letters[at % 26] + "x" for at in range(114)]
    rows = []
    for at, name in enumerate(names):
        follow = names[(at + 1) % many] if at < many else names[at - many]
        near = [names[at // 6 * 6 + more] for more in range(6) if at // 6 * 6 + more > at and at + 1 >= many]
        rows.append("let {} = [{}]".format(name, ", ".join([follow, *near, follow, "1"])))
    files = "abcdef"
    texts = []
    for file in range(6):
        takes = ["take " + other * 2 for other in files if other != files[file]]
        texts.append("\n".join(takes + rows[file::6]))
    return house(*texts)


class TestGreatHouses(unittest.TestCase):
    def test_ring_of_sixty_through_all_files(self):
        where = great_house(60)
        self.assertIs(is_house(where), True)
        begun = time.perf_counter()
        told = ringed(where)
        self.assertEqual(len(told), 60)
        self.assertEqual({file for file, _ in told}, {file for file, _ in where})
        same(self, told, [piece[:2] for piece in oracle.made(where) if oracle.in_ring(where, *piece[:2])])
        for file, name, _, kind in piece_kinds(where):
            same(self, kind, None if (file, name) in told else "nums")
        for file, number, _ in pieces(where)[:20]:
            part_kinds(where, file, 5)
        self.assertLess(time.perf_counter() - begun, 60)

    def test_ring_of_all(self):
        where = great_house(114)
        self.assertEqual(len(ringed(where)), 114)
        self.assertEqual({piece[3] for piece in piece_kinds(where)}, {None})


class TestByChance(unittest.TestCase):
    def test_as_the_oracle_tells_it(self):
        chance = random.Random(11)
        met = set()
        for _ in range(120):
            where = oracle.chance_house(chance)
            made = [piece[:2] for piece in oracle.made(where)]
            same(self, ringed(where), [piece for piece in made if oracle.in_ring(where, *piece)])
            told = piece_kinds(where)
            same(self, [piece[:2] for piece in told], made)
            same(self, [piece[3] for piece in told], [oracle.piece_kind(where, *piece) for piece in made])
            met.update(piece[3] for piece in told)
            for file, number, row in oracle.rows_in(where):
                self.row(where, file, number, oracle.tree(row))
        self.assertEqual(met, {None, *KINDS})

    def row(self, where, file, number, tree):
        parts = oracle.all_in(tree[-1]) if tree[0] in ("let", "def") else []
        same(self, part_kinds(where, file, number), [(part[1], oracle.kind(where, file, number, part)) for part in parts])

    def test_files_in_another_order(self):
        chance = random.Random(12)
        for _ in range(40):
            where = oracle.chance_house(chance)
            self.assertEqual(sorted(ringed(where)), sorted(ringed(where[::-1])))
            self.assertEqual(sorted(piece_kinds(where), key=repr), sorted(piece_kinds(where[::-1]), key=repr))

    def test_each_answer_is_that_of_its_house_alone(self):
        chance = random.Random(13)
        first, second = oracle.chance_house(chance), oracle.chance_house(chance)
        wanted = {where: (piece_kinds(where), ringed(where)) for where in (first, second)}
        for where in (first, second, second, first):
            same(self, (piece_kinds(where), ringed(where)), wanted[where])


if __name__ == "__main__":
    unittest.main()
