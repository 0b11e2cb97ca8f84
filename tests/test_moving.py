"""Point [14]: pieces moved to another file."""

import random
import time
import unittest

import oracle
import oracle_faults
from chances import faulty_house, full_house
from helpers import listed, same
from test_faults import house
from typedahead import moving as moving_file
from typedahead.errors import Clash, NoFile, NoPiece, TooLong
from typedahead.kinds import piece_kinds
from typedahead.moving import moved
from typedahead.names import pieces
from typedahead.texts import rows_of
from typedahead.values import values


class TestMoved(unittest.TestCase):
    def told(self, texts, row, wanted, goal="bb", file="aa"):
        same(self, (texts, moved(house(*texts), file, row, goal)), (texts, house(*wanted)))

    def test_defined_in_their_file(self):
        self.assertEqual(moved.__module__, moving_file.__name__)

    def test_row_goes_behind_the_last_one_of_goal(self):
        self.told(("let a = 1\nlet b = 2\nlet c = 3", "let d = 4"), 1, ("let a = 1\nlet c = 3", "let d = 4\nlet b = 2"))
        self.told(("let a = 1\nlet b = 2", "let d = 4\n"), 0, ("let b = 2", "let d = 4\n\nlet a = 1"))
        self.told(("let a = 1\n", "x\n? y"), 0, ("", "x\n? y\nlet a = 1"))
        self.told(("\nlet a = 1\n", "let d = 4"), 1, ("\n", "let d = 4\nlet a = 1"))

    def test_row_as_it_is(self):
        self.told(("  def  f (a num)=a ;\nlet b = 1", "x"), 0, ("let b = 1", "x\n  def  f (a num)=a ;"))
        self.told(("let a", "x"), 0, ("", "x\nlet a"))

    def test_of_no_rows_one_without_signs_stays(self):
        self.told(("let a = 1", "let b = 2"), 0, ("", "let b = 2\nlet a = 1"))

    def test_in_the_place_of_one_without_signs(self):
        self.told(("let a = 1", ""), 0, ("", "let a = 1"))
        self.told(("let a = 1\nlet b = a", ""), 0, ("take bb\nlet b = a", "let a = 1"))
        self.told(("let a = b\nlet b = 1", ""), 0, ("let b = 1", "take aa\nlet a = b"))
        self.told(("let a = 1", "\n"), 0, ("", "\n\nlet a = 1"))
        self.told(("let a = 1", "  "), 0, ("", "  \nlet a = 1"))

    def test_goal_takes_the_files_that_are_needed(self):
        self.told(("take cc\nlet a = b + c\nlet b = 1", "let d = 1", "let c = 1"), 1,
                  ("take cc\nlet b = 1", "take aa\ntake cc\nlet d = 1\nlet a = b + c", "let c = 1"))
        self.told(("take cc\nlet a = c", "let d = 1", "let c = 1"), 1,
                  ("take cc", "take cc\nlet d = 1\nlet a = c", "let c = 1"))

    def test_the_first_file_on_top(self):
        texts = ("take bb\ntake cc\ntake dd\nlet a = [d, c, b, e]\nlet e = 1", "let b = 1", "let c = 1", "let d = 1", "x")
        self.told(texts, 3, ("\n".join(texts[0].split("\n")[:3] + ["let e = 1"]), *texts[1:4],
                             "take aa\ntake bb\ntake cc\ntake dd\nx\nlet a = [d, c, b, e]"), "ee")
        where = house(*texts)[::-1]
        same(self, moved(where, "aa", 3, "ee")[0], ("ee", "take dd\ntake cc\ntake bb\ntake aa\nx\nlet a = [d, c, b, e]"))

    def test_files_that_goal_takes_are_not_taken_again(self):
        self.told(("take cc\nlet a = b + c\nlet b = 1", "take cc\ntake aa", "let c = 1"), 1,
                  ("take cc\nlet b = 1", "take cc\ntake aa\nlet a = b + c", "let c = 1"))
        self.told(("take cc\nlet a = b + c\nlet b = 1", "x\ntake cc zz", "let c = 1"), 1,
                  ("take cc\nlet b = 1", "take aa\nx\ntake cc zz\nlet a = b + c", "let c = 1"))

    def test_goal_does_not_take_itself(self):
        self.told(("take bb\nlet a = b", "let b = 1"), 1, ("take bb", "let b = 1\nlet a = b"))

    def test_moved_piece_left_out(self):
        self.told(("def f(n num) = f(n)\nlet b = 1", "x"), 0, ("let b = 1", "x\ndef f(n num) = f(n)"))
        self.told(("let a = a", "x"), 0, ("", "x\nlet a = a"))

    def test_files_that_name_it_take_goal(self):
        texts = ("let a = 1\nlet b = a", "x", "take aa\nlet c = a", "take aa\nlet d = 1", "let e = 1", "take aa\ntake bb\nlet f = a")
        self.told(texts, 0, ("take bb\nlet b = a", "x\nlet a = 1", "take bb\ntake aa\nlet c = a", *texts[3:]))

    def test_called_def_and_rows_that_make_nothing(self):
        self.told(("def f(n num) = n", "x", "take aa\nlet = f(1"), 0, ("", "x\ndef f(n num) = n", "take bb\ntake aa\nlet = f(1"))
        self.told(("let b = 1\nlet a = 1\nlet b = a", "x"), 1, ("take bb\nlet b = 1\nlet b = a", "x\nlet a = 1"))

    def test_goal_that_named_it(self):
        self.told(("let a = 1\nlet b = 1", "take aa\nlet c = a"), 0, ("let b = 1", "take aa\nlet c = a\nlet a = 1"))

    def refused(self, error, where, file, row, goal):
        for handed in (where, listed(where)):
            with self.assertRaises(error) as told:
                moved(handed, file, row, goal)
        return told.exception

    def test_no_piece(self):
        where = house("take bb\nlet a = 1\nlet a = 2\nlet = 3\n\nx\ndef (n num) = n", "let b = 1")
        for file, row in (("aa", -1), ("aa", -6), ("aa", 0), ("aa", 2), ("aa", 3), ("aa", 4), ("aa", 5), ("aa", 6), ("aa", 7),
                          ("aa", 24), ("bb", 1), ("bb", -1), ("cc", 0), ("", 0)):
            for goal in ("bb", "aa", "zz"):
                told = self.refused(NoPiece, where, file, row, goal)
                same(self, (told.file, told.row), (file, row))

    def test_no_file(self):
        where = house("let a = 1\n" + "\n" * 22, "\n" * 23)
        for goal in ("aa", "cc", "", "a"):
            same(self, self.refused(NoFile, where, "aa", 0, goal).file, goal)

    def test_too_long(self):
        full = "\n" * 23
        self.refused(TooLong, house("let a = 1", full), "aa", 0, "bb")
        # A Clash would be due as well: the one told first goes.
        self.refused(TooLong, house("let a = 1", "let a = 1" + full), "aa", 0, "bb")
        self.told(("let a = 1", full[1:]), 0, ("", full[1:] + "\nlet a = 1"))
        self.refused(TooLong, house("let a = b\nlet b = 1", full[1:]), "aa", 0, "bb")
        self.told(("let a = b\nlet b = 1", full[2:]), 0, ("let b = 1", "take aa\n" + full[2:] + "\nlet a = b"))

    def test_too_many_rows_in_another_file(self):
        full = "take aa\nlet c = a" + "\n" * 22
        self.refused(TooLong, house("let a = 1", "x", full), "aa", 0, "bb")
        self.told(("let a = 1", "x", full[:-1]), 0, ("", "x\nlet a = 1", "take bb\n" + full[:-1]))
        # In its own file the row that goes makes room for one.
        own = "let a = 1\nlet b = a" + "\n" * 22
        self.told((own, "x"), 0, ("take bb\nlet b = a" + "\n" * 22, "x\nlet a = 1"))

    def clash(self, texts, row, wanted, goal="bb"):
        same(self, (texts, self.refused(Clash, house(*texts), "aa", row, goal).place), (texts, wanted))

    def test_clash_by_a_piece_of_that_name_in_goal(self):
        self.clash(("let a = 1", "let a = 2"), 0, ("aa", 0, 4))
        self.clash(("let b = 1\nlet a = 1", "x\nlet a = 2"), 1, ("aa", 1, 4))

    def test_clash_by_a_row_that_comes_to_make_a_piece(self):
        self.clash(("let a = 1\nlet a = 2", "x"), 0, ("aa", 1, 4))

    def test_clash_by_params_that_go_along(self):
        # In goal the params stand for themselves as they did; what the part names besides must be seen there.
        self.told(("def f(n num) = n + b\nlet b = 1", "let n = 1"), 0, ("let b = 1", "take aa\nlet n = 1\ndef f(n num) = n + b"))
        self.clash(("def f(n num) = n + b\nlet b = 1", "let b = 2"), 0, ("aa", 0, 19))
        self.clash(("def f(n num, n num) = zz", "let zz = 2"), 0, ("aa", 0, 22))

    def test_clash_by_params_of_other_rows(self):
        self.told(("let x = 1\ndef f(n num) = n\nlet a = 1\ndef g(n num) = n + a", "x"), 2,
                  ("take bb\nlet x = 1\ndef f(n num) = n\ndef g(n num) = n + a", "x\nlet a = 1"))

    def test_clash_by_names_that_come_to_be_unclear(self):
        self.clash(("let a = 1\nlet b = a + c\ntake cc", "let c = 2", "let c = 1"), 0, ("aa", 1, 12))
        self.clash(("let a = c\nlet d = 1\ntake cc", "let d = 2\ntake dd", "let c = 1", "let c = 2"), 0, ("aa", 0, 8))

    def test_clash_by_names_that_come_to_stand_for_something(self):
        self.clash(("let a = 1\nlet b = a + c", "let c = 2"), 0, ("aa", 1, 12))
        self.clash(("let a = b + zz\nlet b = 2", "let zz = 1"), 0, ("aa", 0, 12))
        self.clash(("let a = b\nlet b = 2\nlet c = 1", "let d = c"), 0, ("bb", 0, 8))
        self.clash(("let b = 1\nlet a = 2", "let c = a"), 1, ("bb", 0, 8))

    def test_clash_where_the_moved_piece_is_hidden(self):
        self.clash(("let a = 1", "x", "take bb\ntake dd\nlet c = a", "let a = 2"), 0, ("cc", 2, 8))
        self.clash(("take cc\nlet a = 1\nlet b = a", "x", "let a = 2"), 1, ("aa", 2, 8))

    def test_clash_is_the_first_one_by_its_place_ahead(self):
        texts = ("let b = zz\nlet a = 1\nlet c = a + yy", "let zz = 1\nlet yy = 2")
        self.clash(texts, 1, ("aa", 0, 8))
        # The file gets a row on top: told is the place ahead of it.
        self.clash(("let a = 1\nlet c = a + yy", "let yy = 2"), 0, ("aa", 1, 12))
        self.clash(("let c = 1\nlet d = 2\nlet a = c + d", "let d = 3\nlet c = a"), 2, ("aa", 2, 8))
        same(self, self.refused(Clash, house(*("let c = 1\nlet d = 2\nlet a = c + d", "let d = 3\nlet c = a"))[::-1],
                                "aa", 2, "bb").place, ("bb", 1, 8))

    def test_arguments_by_their_names_and_what_is_handed_in_stays(self):
        where = listed(house("let a = 1\nlet b = a", "x"))
        wanted = house("take bb\nlet b = a", "x\nlet a = 1")
        same(self, moved(goal="bb", row=0, file="aa", house=where), wanted)
        same(self, moved(where, "aa", 0, "bb"), wanted)
        self.assertEqual(where, listed(house("let a = 1\nlet b = a", "x")))

    def test_as_the_oracle_tells_it(self):
        chance = random.Random(29)
        met = {}
        for _ in range(200):
            where = faulty_house(chance)
            names = {(file, row): name for file, name, row in pieces(where)}
            for file, row in list(names)[::2] + [("main", 0)]:
                goal = chance.choice(where)[0]
                wanted = oracle_faults.moved(where, file, row, goal)
                met[wanted[0]] = met.get(wanted[0], 0) + 1
                try:
                    told = ("house", moved(where, file, row, goal))
                except NoPiece as e:
                    told = ("NoPiece", (e.file, e.row))
                except NoFile as e:
                    told = ("NoFile", e.file)
                except TooLong:
                    told = ("TooLong", None)
                except Clash as e:
                    told = ("Clash", e.place)
                same(self, told, wanted)
                if told[0] == "house":
                    self.stays(where, told[1], file, names[file, row], goal)
        self.assertGreater(min(met.get(word, 0) for word in ("house", "Clash", "NoFile", "NoPiece")), 50)

    def stays(self, where, after, file, name, goal):
        """Checks that all kinds and values are as they were, but for the moved piece's file."""
        for tell in (piece_kinds, values):
            ahead = [(goal if (other, each) == (file, name) else other, each, *more) for other, each, *more in tell(where)]
            same(self, sorted(ahead, key=repr), sorted(tell(after), key=repr))

    def test_great_houses(self):
        where = full_house(random.Random(30))
        # Rows that take the others make room here.
        where = tuple((file, "\n".join(rows_of(text)[:-3])) for file, text in where)
        begun = time.perf_counter()
        met = set()
        for file, _, row in pieces(where):
            for goal, _ in where:
                told = oracle_faults.moved(where, file, row, goal) if row == 7 else None
                try:
                    after = ("house", moved(where, file, row, goal))
                except (NoFile, TooLong, Clash) as e:
                    after = (type(e).__name__,)
                met.add(after[0])
                self.assertEqual(after[0], told[0] if told else after[0])
        self.assertEqual(oracle.made(where), pieces(where))
        self.assertIn("house", met)
        self.assertLess(time.perf_counter() - begun, 120)


if __name__ == "__main__":
    unittest.main()
