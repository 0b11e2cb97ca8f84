"""Point [21]: a desk."""

import random
import time
import unittest

import oracle
from chances import faulty_house, full_house
from helpers import SIGNS, same
from typedahead import desk as desk_file
from typedahead.desk import run
from typedahead.errors import BadLine
from typedahead.helper import Helper
from typedahead.words import HELD

FILES = "file aa\n|let a = b + 1\n|let b=2\nfile bb\n|take aa\n|let c = a\n|? c\nfile cc\nbegin"


def head(house):
    """The lines ahead of the orders."""
    return "\n".join([line for file, text in house for line in ["file " + file, *["|" + row for row in text.split("\n")]]] + ["begin"])


class TestRun(unittest.TestCase):
    def told(self, *pairs, files=FILES):
        """Checks orders with their answers, one behind the other."""
        text = "\n".join([files] + [order for order, _ in pairs])
        same(self, list(zip([order for order, _ in pairs], run(text))), list(pairs))

    def test_defined_in_its_file(self):
        self.assertEqual(run.__module__, desk_file.__name__)

    def test_no_orders(self):
        same(self, run(FILES), [])
        same(self, run(text="file a\nbegin"), [])
        self.assertIsNot(run(FILES), run(FILES))

    def test_rows(self):
        self.told(("rows aa", "|let a = b + 1; |let b=2"), ("rows bb", "|take aa; |let c = a; |? c"), ("rows cc", "|"),
                  ("rows dd", "refused"))
        self.told(("rows a", "|; |; | ; ||; |file x; |begin"), files="file a\n|\n|\n| \n||\n|file x\n|begin\nbegin")
        self.told(("rows a", "|"), files="file a\n|\nbegin")
        self.told(("rows a", "|" + SIGNS[:60] + "; |" + SIGNS[34:]),
                  files="file a\n|" + SIGNS[:60] + "\n|" + SIGNS[34:] + "\nbegin")

    def test_put(self):
        self.told(("put 0 aa 0 12 |3 + ", "1"), ("rows aa", "|let a = b + 3 + 1; |let b=2"), ("put 1 cc 0 0 |let x = 1", "2"),
                  ("put 1 cc 0 9 ||", "3"), ("put 0 cc 0 10 | |", "4"), ("rows cc", "|let x = 1| |"), ("put 0 cc 0 0 |", "5"),
                  ("rows cc", "|let x = 1| |"), ("put 0 aa 1 7 | ", "6"), ("rows aa", "|let a = b + 3 + 1; |let b=2 "),
                  ("put 1 bb 2 0 |faults", "7"), ("rows bb", "|take aa; |let c = a; |faults? c"))

    def test_put_refused(self):
        self.told(("put 0 dd 0 0 |x", "refused"), ("put 0 aa 2 0 |x", "refused"), ("put 0 aa 0 14 |x", "refused"),
                  ("put 0 cc 0 1 |", "refused"), ("put 0 aa 9999 0 |x", "refused"), ("put 0 aa 0 0 |" + "x" * 48, "refused"),
                  ("put 0 aa 0 0 |" + "x" * 47, "1"), ("put 1 aa 0 60 |x", "refused"), ("put 1 aa 1 7 |x", "2"))

    def test_cut(self):
        self.told(("cut 0 aa 0 9 4", "1"), ("rows aa", "|let a = b; |let b=2"), ("cut 1 aa 0 9 1", "2"), ("rows aa", "|let a = blet b=2"),
                  ("cut 1 bb 0 7 3", "3"), ("rows bb", "|take aat c = a; |? c"), ("cut 0 bb 0 0 19", "refused"), ("cut 0 bb 0 0 18", "4"), ("rows bb", "|"),
                  ("cut 0 bb 0 0 0", "5"), ("cut 0 bb 0 0 1", "refused"), ("cut 0 aa 0 16 0", "6"), ("cut 0 aa 0 16 1", "refused"))

    def test_cut_over_line_feeds_counts_them(self):
        self.told(("cut 0 aa 0 13 8", "1"), ("rows aa", "|let a = b + 1"), ("cut 0 bb 0 0 22", "refused"), ("cut 0 bb 0 0 21", "2"),
                  ("rows bb", "|"), ("cut 0 aa 0 0 9999", "refused"), ("cut 0 aa 1 0 0", "refused"), ("cut 0 dd 0 0 0", "refused"))

    def test_cut_that_makes_a_row_too_long(self):
        files = "file a\n|" + "x" * 31 + "\n|" + "y" * 30 + "\nbegin"
        self.told(("cut 0 a 0 31 1", "refused"), ("cut 0 a 0 30 2", "1"), ("rows a", "|" + "x" * 30 + "y" * 30), files=files)

    def test_split(self):
        self.told(("split 0 aa 0 7", "1"), ("rows aa", "|let a =; | b + 1; |let b=2"), ("split 1 aa 2 7", "2"),
                  ("rows aa", "|let a =; | b + 1; |let b=2; |"), ("split 0 cc 0 0", "3"), ("rows cc", "|; |"),
                  ("split 0 cc 0 1", "refused"), ("split 0 cc 2 0", "refused"), ("split 0 dd 0 0", "refused"))
        self.told(*[("split 0 a 0 0", str(number)) for number in range(1, 24)], ("split 0 a 0 0", "refused"),
                  files="file a\nbegin")

    def test_lay(self):
        self.told(("lay 0 aa", "1"), ("rows aa", "|let a = b + 1; |let b = 2"), ("lay 1 cc", "2"), ("lay 0 dd", "refused"))

    def test_lead(self):
        self.told(("lead 0 aa 0 4 x", "1"), ("rows bb", "|take aa; |let c = x; |? c"), ("lead 1 bb 1 8 yy", "2"),
                  ("rows aa", "|let yy = b + 1; |let b=2"), ("lead 0 aa 0 5 x", "refused"), ("lead 0 aa 9 4 x", "refused"),
                  ("lead 0 dd 0 4 x", "refused"), ("lead 0 aa 0 4 b", "refused"), ("lead 0 bb 0 5 x", "refused"),
                  ("lead 0 bb 2 2 x", "refused"), ("lead 0 aa 0 4 yy", "3"))

    def test_move(self):
        self.told(("move 0 aa 1 cc", "1"), ("rows aa", "|take cc; |let a = b + 1"), ("rows cc", "|let b=2"),
                  ("move 1 aa 0 cc", "refused"), ("move 1 aa 1 aa", "refused"), ("move 1 aa 1 dd", "refused"),
                  ("move 1 dd 0 aa", "refused"), ("move 1 aa 9 cc", "refused"), ("move 1 aa 1 bb", "2"),
                  ("rows bb", "|take cc; |take aa; |let c = a; |? c; |let a = b + 1"))

    def test_mend(self):
        self.told(("faults", "bb 2 0 start; bb 2 0 odd"), ("mend 0 2", "refused"), ("mend 1 9999", "refused"), ("mend 0 0", "1"),
                  ("faults", "-"), ("rows bb", "|take aa; |let c = a; |"), ("mend 0 0", "refused"))
        self.told(("mend 1 0", "refused"), ("faults", "a 0 4 ring; a 1 4 ring"), files="file a\n|let a = b\n|let b = a\nbegin")
        self.told(("faults", "a 0 8 part; a 1 8 unknown"), ("mend 0 1", "1"), ("rows a", "|let a = ; |let b =  0 "),
                  ("mend 0 0", "2"), ("rows a", "|let a =  0 ; |let b =  0 "), files="file a\n|let a = \n|let b = zz\nbegin")

    def test_undo_and_redo(self):
        self.told(("undo 0", "refused"), ("redo 1", "refused"), ("put 0 cc 0 0 |abc", "1"), ("put 1 cc 0 1 |x", "2"),
                  ("undo 0", "refused"), ("undo 1", "3"), ("undo 0", "4"), ("rows cc", "|"), ("undo 0", "refused"), ("redo 0", "5"),
                  ("redo 0", "refused"), ("redo 1", "6"), ("rows cc", "|axbc"))

    def test_faults(self):
        self.told(("faults", "a 0 4 name; a 0 6 unfit; a 0 6 unfit; a 0 10 unfit; b 0 3 name; b 0 3 part; b 0 3 sign"),
                  files='file a\n|let = 1 & 2 + 3\nfile b\n|let\nbegin')
        self.told(("faults", "-"), files="file a\nbegin")

    def test_kinds(self):
        self.told(("kinds", "aa a num; aa b num; bb c num"), ("cut 0 aa 0 8 5", "1"), ("kinds", "aa a -; aa b num; bb c -"))
        self.told(("kinds", "a f num; a g -; a h words"), files='file a\n|def f(n num, m) = n\n|def g(n) = n\n|let h = [""]\nbegin')
        self.told(("kinds", "-"), files="file a\n|let\nbegin")

    def test_values(self):
        self.told(("values", 'a a 7; a b -3; a c "x y"; a d ""; a e yes; a f no; a g [1, -2]; a h ["a", "b, c"]; a i [yes, no]; '
                             'a j -; a k 0; a l [12]'),
                  files='file a\n|let a = 7\n|let b = 0 - 3\n|let c = "x y"\n|let d = ""\n|let e = yes\n|let f = no\n'
                        '|let g = [1, 0 - 2]\n|let h = ["a", "b, c"]\n|let i = [1 < 2, no]\n|let j = zz\n|let k = 0\n|let l = [012]\nbegin')
        self.told(("values", "-"), files="file a\n|def f(n num) = n\nbegin")

    def test_uses(self):
        self.told(("uses aa 0 4", "aa 0 4; bb 1 8"), ("uses bb 1 8", "aa 0 4; bb 1 8"), ("uses bb 0 5", "bb 0 5"),
                  ("uses bb 2 2", "refused"), ("uses aa 0 0", "refused"), ("uses dd 0 0", "refused"), ("uses aa 7 4", "refused"))

    def test_offers(self):
        self.told(("offers aa 0 8", "b"), ("offers bb 1 8", "a; b; no; yes"), ("offers aa 0 4", "refused"),
                  ("offers dd 0 0", "refused"), ("put 0 cc 0 0 |let d = 1 + ", "1"), ("offers cc 0 12", "-"))

    def test_work(self):
        self.told(("work", "6 3"), ("put 0 aa 0 13 |2", "1"), ("work", "1 1"), ("lay 0 cc", "2"), ("work", "0 0"),
                  ("put 1 aa 1 6 |[", "3"), ("work", "1 2"))

    def test_refused_changes_nothing(self):
        self.told(("put 0 dd 0 0 |x", "refused"), ("cut 0 aa 5 0 1", "refused"), ("undo 0", "refused"), ("work", "6 3"),
                  ("put 0 cc 0 0 |x", "1"), ("undo 1", "refused"), ("undo 0", "2"))

    def test_one_helper(self):
        self.told(("put 0 cc 0 0 |x", "1"), ("put 1 cc 0 0 |y", "2"), ("undo 0", "3"), ("rows cc", "|y"), ("redo 0", "4"),
                  ("rows cc", "|yx"), ("undo 1", "5"), ("rows cc", "|x"))


class TestBadLines(unittest.TestCase):
    def bad(self, text, line):
        with self.assertRaises(BadLine) as told:
            run(text)
        same(self, (text, told.exception.line), (text, line))

    def test_orders_that_are_not_so_written(self):
        for order in (
                "", " ", "x", "begin", "file dd", "|x", "faults ", " faults", "faults  ", "faults aa", "kinds 0", "values x", "work 1",
                "rows", "rows ", "rows aa ", "rows  aa", "rows aa bb", "rows let", "rows AA", "rows abcdefghi", "rows a1", "undo",
                "undo 2", "undo -1", "undo 00", "undo 01", "undo 0 0", "undo x", "redo", "redo 2", "lay 0", "lay aa", "lay 2 aa",
                "lay 0 if", "lay 0 aa x", "lay 0  aa", "lead 0 aa 0 4", "lead 0 aa 0 4 let", "lead 0 aa 0 4 X", "lead 0 aa 0 4 x y",
                "lead 0 aa 00 4 x", "lead 0 aa 0 x x", "lead 0 aa 0 4 abcdefghi", "lead 0 aa 0 4 ", "move 0 aa 0", "move 0 aa 0 let",
                "move 0 aa -1 bb", "move aa 0 bb", "mend 0", "mend 0 00", "mend 0 01", "mend 0 10000", "mend 0 -1", "mend 0 x",
                "mend 0 +1", "mend 0 1 1", "mend 0 99999", "cut 0 aa 0 0", "cut 0 aa 0 0 01", "cut 0 aa 0 0 10000", "cut 0 aa 0 0 |x",
                "cut 0 aa 0 0 1 |", "split 0 aa 0", "split 0 aa 0 0 0", "split 0 aa 0 0 |", "put 0 aa 0 0", "put 0 aa 0 0 x",
                "put 0 aa 0 0 x |y", "put 0 aa 0 |0", "put 0 aa 0 0|x", "put 0 aa 0 0  |x", "put  0 aa 0 0 |x", "put 2 aa 0 0 |x",
                "put 0 aa 012 0 |x", "put 0 yes 0 0 |x", "put|", "put |", "put 0 aa 0 0|x |y", "uses aa 0", "uses aa 0 0 0",
                "uses 0 aa 0 0", "uses aa 0 0x", "offers aa 0 x", "offers aa 0", "offers words 0 0", "rows aa|", "rows aa |", "faults |",
                "Faults", "fault", "do", "end", "lay 0 |aa", "rows |aa", "undo |0", "mend 0 1_0", "uses aa 1 1 ", "uses aa 1.0 1"):
            self.bad(FILES + "\n" + order, 9)
            self.bad(FILES + "\nfaults\n" + order + "\nwork", 10)

    def test_what_is_no_sign(self):
        for other in ("\t", chr(37), "\r", "\x7f", "\xe9"):
            self.bad(FILES + "\nfaults\nput 0 aa 0 0 |x" + other, 10)
            # Ahead of begin a row of that makes its file's text none, and so the files no house.
            self.bad("file aa\n|x" + other + "\nbegin\nfaults", 4)
        self.assertEqual(run(FILES + "\nput 0 cc 0 0 |" + SIGNS[:60]), ["1"])

    def test_numbers(self):
        for number in ("0", "1", "10", "9999", "1000"):
            self.assertEqual(len(run(FILES + "\nuses aa " + number + " 0\nput 0 aa 0 " + number + " |")), 2)
        for number in ("", "00", "01", "10000", "99999", "0000", "-1", "+1", "1a", "a", " 1", "1 ", "1e2", "0x1", "1.", '"1"'):
            self.bad(FILES + "\nuses aa " + number + " 0", 9)
            self.bad(FILES + "\nput 0 aa 0 " + number + " |", 9)

    def test_held_words_are_no_names(self):
        for word in HELD + ("", "abcdefghi", "A"):
            self.bad("file " + word + "\nbegin", 0)
            self.bad(FILES + "\nlead 0 aa 0 4 " + word, 9)
            self.bad(FILES + "\nmove 0 aa 0 " + word, 9)
        self.assertEqual(run("file begin\n|file\nbegin\nrows begin"), ["|file"])

    def test_lines_ahead_that_are_not_so_written(self):
        for line in ("", " ", "file", "file ", "file  aa", " file dd", "file dd ", "file dd x", "File dd", "file let", "file d1",
                     "file abcdefghi", "file |", " |", "x", "begin ", " begin", "Begin", "faults", "rows aa", "put 0 aa 0 0 |x", "undo 0"):
            self.bad("file aa\n|x\n" + line + "\nfile bb\nbegin", 2)
            self.bad("file aa\n|x\n" + line, 2)
        self.bad("|x\nfile aa\nbegin", 0)
        self.bad("|\nbegin", 0)
        self.bad("", 0)
        self.bad("\nfile aa\nbegin", 0)

    def test_last_bare_line(self):
        self.bad("file aa\n|x\n", 2)
        self.bad("file aa\nbegin\n", 2)
        self.bad("file aa\nbegin\nfaults\n", 3)
        self.bad("file aa\nbegin\nfaults\n\nfaults", 3)

    def test_begin_is_wanting(self):
        self.bad("file aa", 1)
        self.bad("file aa\n|x", 2)
        self.bad("file aa\n|x\nfile bb\n|begin", 4)

    def test_begin_twice(self):
        self.bad("file aa\nbegin\nbegin", 2)
        self.bad(FILES + "\nfaults\nbegin\nx", 10)

    def test_files_that_are_no_house(self):
        self.bad("begin", 1)
        self.bad("begin\nfaults\nwork", 3)
        self.bad("file aa\nfile aa\nbegin", 3)
        self.bad("file aa\nfile bb\nfile aa\n|x\nbegin\nfaults", 6)
        self.bad("file aa\n|" + "x" * 61 + "\nbegin", 3)
        self.assertEqual(run("file aa\n|" + "x" * 60 + "\nbegin"), [])
        self.bad("file aa\n" + "|\n" * 25 + "begin", 27)
        self.assertEqual(run("file aa\n" + "|\n" * 24 + "begin"), [])
        files = "".join("file " + name + "\n" for name in "abcdefg")
        self.bad(files + "begin\nundo 0", 9)
        self.assertEqual(run(files.replace("file g\n", "") + "begin"), [])

    def test_first_bad_line_is_told(self):
        self.bad("file aa\nfile aa\nbegin\nx", 3)
        self.bad("file aa\n|" + "x" * 61 + "\nbegin\nundo 2\nundo 3", 3)
        self.bad("file aa\nx\nbegin\ny", 1)
        self.bad("begin\nx", 1)

    def test_refused_ahead_of_all(self):
        # What is refused is told of lines that are read, whatever the orders ahead would be answered.
        self.bad(FILES + "\nundo 0\nrows zz\nlay 0 aa\nundo", 12)


class TestByChance(unittest.TestCase):
    def test_as_one_helper_tells(self):
        chance = random.Random(38)
        for _ in range(30):
            where = faulty_house(chance)
            helper, orders, wanted = Helper(where), [], []
            for number in range(1, 13):
                file, text = chance.choice(helper.house())
                row = chance.randrange(text.count("\n") + 1)
                column = chance.randrange(len(text.split("\n")[row]) + 1)
                at = sum(len(each) + 1 for each in text.split("\n")[:row]) + column
                many = min(chance.choice((1, 2, 30)), len(text) - at)
                orders.append("cut {} {} {} {} {}".format(number % 2, file, row, column, many))
                try:
                    wanted.append(str(helper.edit(number % 2, file, (at, many, ""))))
                except ValueError:
                    wanted.append("refused")
                places = oracle.places(helper.house())
                orders += ["faults", "work", "kinds"] + ["uses {} {} {}".format(*place) for place in places[:2]]
                wanted.append("; ".join("{} {} {} {}".format(*place, word) for place, word, _ in helper.faults()) or "-")
                wanted.append("{} {}".format(*helper.work()))
                wanted.append("; ".join("{} {} {}".format(file, name, kind or "-") for file, name, _, kind in helper.kinds()) or "-")
                for place in places[:2]:
                    known = oracle.goal(helper.house(), place) is not None
                    wanted.append("; ".join("{} {} {}".format(*each) for each in helper.uses(place)) if known else "refused")
            same(self, run("\n".join([head(where), *orders])), wanted)

    def test_great_houses(self):
        where = full_house(random.Random(39))
        orders = []
        for number in range(10):
            orders += ["put {} fb {} 9 |1 + ".format(number % 2, number + 10), "faults", "values", "kinds", "work",
                       "offers fc {} 9".format(number + 6), "uses fd {} 4".format(number + 6), "mend 0 {}".format(number * 7),
                       "undo {}".format(number % 2), "rows fb"]
        begun = time.perf_counter()
        told = run("\n".join([head(where), *orders]))
        self.assertEqual(len(told), 100)
        self.assertLess(told.count("refused"), 40)
        self.assertLess(time.perf_counter() - begun, 120)


if __name__ == "__main__":
    unittest.main()
