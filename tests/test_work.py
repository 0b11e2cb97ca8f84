"""Point [16]: how many rows are read and reckoned by each make."""

import random
import unittest

import oracle_helper
from chances import faulty_house, full_house
from helpers import same
from test_faults import house
from typedahead.helper import Helper
from typedahead.names import pieces


class TestWork(unittest.TestCase):
    def begin(self, *texts):
        self.helper = Helper(house(*texts))

    def edit(self, text, wanted, file="aa"):
        """Makes the file's text that one, by one edit, and checks the work of this."""
        self.helper.edit(0, file, (0, len(self.helper.text(file)), text))
        same(self, (text, self.helper.work()), (text, wanted))

    def test_make_0(self):
        for texts, wanted in (([""], (1, 0)), (["let a = 1"], (1, 1)), (["let a = 1\n\nx\ntake bb\ndef f\nlet", "\n"], (8, 3)),
                              (["let a = 1\nlet a = 1\nlet b = a"], (3, 3))):
            self.begin(*texts)
            same(self, (self.helper.work(), self.helper.total()), (wanted, wanted))

    def test_row_within(self):
        self.begin("let a = 1\nlet b = 2\nlet c = 3")
        self.edit("let a = 1\nlet b = 4\nlet c = 3", (1, 1))
        self.edit("let a = 1\nlet b = 4\nlet c = 5", (1, 1))
        self.edit("let a = 6\nlet b = 4\nlet c = 5", (1, 1))
        self.edit("let a = 7\nlet b = 4\nlet c = 8", (3, 3))

    def test_nothing_changed(self):
        self.begin("let a = 1\nlet b = a")
        self.edit("let a = 1\nlet b = a", (0, 0))
        self.helper.lay(1, "aa")
        same(self, self.helper.work(), (0, 0))

    def test_rows_put_in(self):
        self.begin("let a = 1\nlet b = 2")
        self.edit("let a = 1\nlet c = 3\n\nlet b = 2", (2, 1))
        self.edit("?\nlet a = 1\nlet c = 3\n\nlet b = 2", (1, 0))
        self.edit("?\nlet a = 1\nlet c = 3\n\nlet b = 2\nlet d = 1", (1, 1))

    def test_rows_taken_out(self):
        self.begin("let a = 1\nlet b = 2\nlet c = 3\nlet d = 4")
        self.edit("let a = 1\nlet d = 4", (0, 0))
        self.edit("let d = 4", (0, 0))
        self.edit("", (1, 0))

    def test_rows_alike_one_behind_the_other(self):
        self.begin("let a = 1\nx\nx\nlet b = 2")
        self.edit("let a = 1\nx\nx\nx\nx\nlet b = 2", (2, 0))
        self.edit("let a = 1\nx\nlet b = 2", (0, 0))
        self.edit("let a = 1\nlet a = 1\nx\nlet b = 2", (1, 1))
        self.edit("let a = 1\nlet b = 2\nlet a = 1\nlet b = 2", (2, 2))
        # Ahead as many as can be: of the rest none is alike at the end.
        self.begin("x\ny\nx")
        self.edit("x\ny\nx\ny\nx", (2, 0))
        self.edit("x", (0, 0))

    def test_row_that_went_elsewhere_is_read(self):
        self.begin("let a = 1\nlet b = 2\nlet c = 3")
        self.edit("let b = 2\nlet c = 3\nlet a = 1", (3, 3))

    def test_rows_that_are_read_and_are_no_let_or_def(self):
        self.begin("take bb\nx\n\nlet a = 1", "")
        self.edit("take bb bb\ny\n \nlet a = 1", (3, 0))

    def test_kind_of_a_piece_changed(self):
        rows = "let b = a\nlet c = b\nlet d = [1]\ndef f(a num) = a\nlet e = a + 1\nlet g = a(1)\nlet = a\nlet h = h + a"
        self.begin("let a = 1\n" + rows)
        self.edit("let a = 2\n" + rows, (1, 1))
        # b, c, e, g, the row without a NAME and h: their NAMEs have a or b behind them.
        self.edit("let a = yes\n" + rows, (1, 7))
        self.edit("let a = no\n" + rows, (1, 1))
        self.edit("let a = zz\n" + rows, (1, 7))

    def test_kind_that_stays_goes_no_further(self):
        self.begin("let a = 1\nlet b = [a] = [2]\nlet c = b")
        self.edit('let a = ""\nlet b = [a] = [2]\nlet c = b', (1, 2))

    def test_kind_of_a_piece_in_another_file(self):
        self.begin("take bb\nlet b = a", "let a = 1\nlet b = a", "let a = 1\nlet b = a", "take aa\nlet c = b")
        self.edit("let a = yes\nlet b = a", (1, 4), "bb")

    def test_params_kinds_changed(self):
        self.begin("let a = f(1)\nlet b = f\nlet c = a\ndef g(f num) = f\ndef f(n num, m) = 1")
        self.edit("let a = f(1)\nlet b = f\nlet c = a\ndef g(f num) = f\ndef f(n word, m) = 1", (1, 3))
        self.edit("let a = f(1)\nlet b = f\nlet c = a\ndef g(f num) = f\ndef f(n word, m num) = 1", (1, 3))
        self.edit("let a = f(1)\nlet b = f\nlet c = a\ndef g(f num) = f\ndef f(k word, m num) = 1", (1, 1))
        self.edit("let a = f(1)\nlet b = f\nlet c = a\ndef g(f num) = f\ndef f(k word) = 1", (1, 3))

    def test_let_for_def(self):
        self.begin("let a = f\nlet b = f(1)\nlet f = 1")
        self.edit("let a = f\nlet b = f(1)\ndef f(n num) = 1", (1, 3))

    def test_piece_that_comes_and_goes(self):
        self.begin("let a = b\nlet c = a + 1\nlet d = 1")
        self.edit("let a = b\nlet c = a + 1\nlet d = 1\nlet b = 1", (1, 3))
        self.edit("let a = b\nlet c = a + 1\nlet d = 1\nlet b = [", (1, 3))
        self.edit("let a = b\nlet c = a + 1\nlet d = 1", (0, 1))
        # Something without a kind is something all the same.
        self.edit("let a = b\nlet c = a + 1\nlet d = 1\nlet b = zz", (1, 2))

    def test_file_that_makes_it_changed(self):
        texts = ["take bb\ntake cc\nlet a = b\nlet c = 1", "let b = 1", ""]
        self.begin(*texts)
        # Behind the NAME stands what stood there, be it made elsewhere.
        self.helper.move(0, "bb", 0, "cc")
        same(self, self.helper.work(), (2, 1))
        self.helper.undo(0)
        same(self, self.helper.work(), (2, 1))
        self.begin("take bb\ntake cc\nlet a = b\nlet c = 1", "let b = 1", "let d = 1")
        self.edit("let b = yes", (1, 2), "cc")
        self.edit("", (1, 1), "bb")

    def test_names_that_come_to_be_unclear(self):
        self.begin("take bb\ntake cc\nlet a = b\nlet c = a", "let b = 1", "")
        self.edit("let b = 1", (1, 3), "cc")
        self.edit("let b = 2", (1, 1), "cc")
        self.edit("let e = 2", (1, 3), "cc")
        # Nothing stands there, be it unknown or unclear.
        self.edit("", (1, 2), "bb")
        self.begin("let a = b", "let b = 1", "let b = 1")
        self.edit("take bb\ntake cc\nlet a = b", (2, 0))

    def test_take_changed(self):
        self.begin("take bb\nlet a = b\nlet c = 1", "let b = 1", "let b = 2", "let b = yes")
        self.edit("take cc\nlet a = b\nlet c = 1", (1, 0))
        self.edit("take dd\nlet a = b\nlet c = 1", (1, 1))
        self.edit("take zz\nlet a = b\nlet c = 1", (1, 1))
        self.edit("\nlet a = b\nlet c = 1", (1, 0))

    def test_rings(self):
        self.begin("let a = 1\nlet b = a\nlet c = b")
        self.edit("let a = c\nlet b = a\nlet c = b", (1, 3))
        self.edit("let a = c + 1\nlet b = a\nlet c = b", (1, 1))
        self.edit("let a = c + 1\nlet b = 1\nlet c = b", (1, 3))

    def test_row_numbers_do_not_count(self):
        self.begin("def f(a num) = a\nlet b = f(1)")
        self.edit("\n\ndef f(a num) = a\nlet b = f(1)", (2, 0))

    def test_param_hides_a_piece(self):
        self.begin("let a = 1\ndef f(b num) = a + b")
        self.edit("let a = yes\ndef f(b num) = a + b", (1, 2))
        self.edit("let a = yes\ndef f(a num) = a + b", (1, 1))
        self.edit("let a = 5\ndef f(a num) = a + b", (1, 1))

    def test_several_files_at_once(self):
        self.begin("take bb\nlet a = b\nlet c = 1", "let b = 1\nlet d = b\nlet e = 1")
        self.helper.lead(0, ("bb", 0, 4), "x")
        same(self, self.helper.work(), (3, 3))
        self.helper.undo(0)
        same(self, self.helper.work(), (3, 3))
        self.helper.redo(0)
        same(self, (self.helper.work(), self.helper.total()), ((3, 3), (15, 14)))

    def test_asks_are_no_work(self):
        self.begin("let a = zz\nlet b = a")
        ahead = (self.helper.work(), self.helper.total())
        self.helper.faults()
        self.helper.mends(self.helper.faults()[0])
        self.helper.offers(("aa", 0, 8))
        self.helper.ask(0, "values")
        self.helper.answer()
        self.helper.mark(0, "aa", 0)
        same(self, (self.helper.work(), self.helper.total()), ahead)

    def test_total(self):
        self.begin("let a = 1\nlet b = a")
        same(self, self.helper.total(), (2, 2))
        self.edit("let a = yes\nlet b = a", (1, 2))
        same(self, self.helper.total(), (3, 4))
        self.edit("let a = yes\nlet b = a", (0, 0))
        same(self, self.helper.total(), (3, 4))
        self.helper.undo(0)
        self.helper.undo(0)
        same(self, (self.helper.work(), self.helper.total()), ((1, 2), (4, 6)))

    def test_as_the_oracle_tells_it(self):
        chance = random.Random(32)
        for _ in range(60):
            first = faulty_house(chance)
            helper, houses = Helper(first), [first]
            for _ in range(4):
                other = dict(faulty_house(chance))
                file = chance.choice(first)[0]
                rows, more = helper.text(file).split("\n"), other.get(file, "").split("\n")
                at, end = sorted((chance.randrange(len(rows) + 1), chance.randrange(len(rows) + 1)))
                rows[at:end] = more[:chance.randrange(3)]
                helper.edit(chance.randrange(2), file, (0, len(helper.text(file)), "\n".join(rows)))
                houses.append(helper.house())
                same(self, helper.work(), oracle_helper.work(*houses[-2:]))
            wanted = [oracle_helper.work(None, first)] + [oracle_helper.work(*pair) for pair in zip(houses, houses[1:])]
            same(self, helper.total(), (sum(pair[0] for pair in wanted), sum(pair[1] for pair in wanted)))

    def test_great_houses(self):
        where = full_house(random.Random(33))
        helper = Helper(where)
        self.assertEqual(helper.work(), (144, 114))
        for file, name, row in pieces(where)[::9]:
            before = helper.house()
            at = sum(len(each) + 1 for each in helper.text(file).split("\n")[:row]) + 4
            helper.edit(0, file, (at, 1, "z"))
            same(self, helper.work(), oracle_helper.work(before, helper.house()))
            self.assertEqual(helper.work()[0], 1)


if __name__ == "__main__":
    unittest.main()
