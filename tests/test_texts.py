"""Point [3]: texts, their rows, and the places in them."""

import unittest

from typedahead import texts
from typedahead.texts import MOST_ROWS, MOST_SIGNS, at_of, is_text, rows_of, spot, text_of

SIGNS = "".join(chr(number) for number in range(32, 127) if number != 37)

TEXTS = [
    "", "a", " ", "abc", "\n", "\n\n", "\n\n\n", "a\n", "\na", "a\nb", "a\n\nb", "\n\na\n\n",
    "let a = 1\nlet b = a + 1\n\ntake other", "  \n \n", "\n" * 23, ("x" * 60 + "\n") * 23 + "y" * 60,
    SIGNS[:60] + "\n" + SIGNS[60:],
]


def nested(depth):
    """A list in a tuple in a list, so many deep, with a text in the innermost."""
    thing = "a"
    for level in range(depth):
        thing = [thing] if level % 2 else (thing,)
    return thing


NO_TEXTS = [
    0, 1, -1, 24, 10 ** 30, True, False, None, [], (), [""], ("",), ["a"], ("a", "b"),
    [["a"], ("b", [None, (True, 0)])], nested(40), ["a"] * 4000,
]


def walked(text):
    """The pairs of all places, found by walking along, sign by sign."""
    row = column = 0
    pairs = [(0, 0)]
    for sign in text:
        if sign == "\n":
            row, column = row + 1, 0
        else:
            column += 1
        pairs.append((row, column))
    return pairs


class TestBounds(unittest.TestCase):
    def test_numbers(self):
        self.assertEqual((MOST_ROWS, MOST_SIGNS), (24, 60))
        self.assertIs(type(MOST_ROWS), int)
        self.assertIs(type(MOST_SIGNS), int)

    def test_defined_in_their_file(self):
        for told in (is_text, rows_of, text_of, spot, at_of):
            self.assertEqual(told.__module__, texts.__name__)


class TestIsText(unittest.TestCase):
    def yes(self, thing):
        self.assertIs(is_text(thing), True, repr(thing))

    def no(self, thing):
        self.assertIs(is_text(thing), False, repr(thing))

    def test_ordinary(self):
        for text in TEXTS:
            self.yes(text)

    def test_bare(self):
        self.yes("")

    def test_rows(self):
        for many in range(1, 25):
            self.yes("\n".join(["a"] * many))
            self.yes("\n" * (many - 1))
        for many in (25, 26, 48, 1000):
            self.no("\n".join(["a"] * many))
            self.no("\n" * (many - 1))

    def test_line_feed_at_the_end_makes_a_row(self):
        self.yes("a\n" * 23)
        self.no("a\n" * 24)
        self.yes("\na" * 23)
        self.no("\na" * 24)

    def test_signs_in_a_row(self):
        for many in (1, 59, 60):
            self.yes("a" * many)
            self.yes(" " * many)
        for many in (61, 62, 120, 5000):
            self.no("a" * many)
            self.no(" " * many)

    def test_long_row_anywhere(self):
        for place in range(24):
            rows = ["b"] * 24
            rows[place] = "a" * 60
            self.yes("\n".join(rows))
            rows[place] = "a" * 61
            self.no("\n".join(rows))

    def test_line_feed_counts_to_no_row(self):
        self.yes("a" * 60 + "\n")
        self.yes("\n" + "a" * 60)
        self.yes("a" * 60 + "\n" + "a" * 60)
        self.no("a" * 61 + "\n")
        self.no("\n" + "a" * 61)

    def test_fullest(self):
        self.yes("\n".join(["~" * 60] * 24))
        self.no("\n".join(["~" * 60] * 24) + "~")
        self.no("\n".join(["~" * 60] * 24) + "\n")

    def test_each_sign(self):
        self.assertEqual(len(SIGNS), 94)
        for sign in SIGNS:
            for text in (sign, "a" + sign, sign + "a", "\n" + sign, sign + "\n"):
                self.yes(text)

    def test_first_and_last_sign_and_just_beyond(self):
        self.yes(" ")
        self.yes("~")
        self.no(chr(31))
        self.no(chr(127))

    def test_percent_sign(self):
        for text in ("%", "a%", "%a", "a\nb%c", "%%", "%s"):
            self.no(text)
        self.yes("$")
        self.yes("&")

    def test_each_other_low_character(self):
        for number in [*range(0, 10), *range(11, 32), *range(127, 256)]:
            for text in (chr(number), "a" + chr(number), chr(number) + "a", "a\n" + chr(number) + "\n"):
                self.no(text)

    def test_other_line_ends(self):
        for text in ("a\r\nb", "a\rb", "a\x0bb", "a\x0cb", "a\x1cb", "a\x85b", "a\u2028b", "a\tb"):
            self.no(text)

    def test_characters_far_beyond(self):
        for text in ("\u00e9", "\u20ac", "\uff41", "\U0001f600", "a\u0301"):
            self.no(text)

    def test_things_that_are_no_texts(self):
        for thing in NO_TEXTS:
            self.no(thing)

    def test_argument_by_name(self):
        self.assertIs(is_text(thing="a"), True)
        self.assertIs(is_text(thing=None), False)

    def test_leaves_what_is_handed_in(self):
        thing = ["a", ["b"]]
        is_text(thing)
        self.assertEqual(thing, ["a", ["b"]])


class TestRows(unittest.TestCase):
    def test_rows_told(self):
        for text, rows in (
            ("", [""]),
            ("a", ["a"]),
            ("\n", ["", ""]),
            ("a\n", ["a", ""]),
            ("\na", ["", "a"]),
            ("a\nb", ["a", "b"]),
            ("a\n\nb", ["a", "", "b"]),
            ("\n\n\n", ["", "", "", ""]),
            ("  \n x ", ["  ", " x "]),
        ):
            self.assertEqual(rows_of(text), rows)
            self.assertEqual(text_of(rows), text)

    def test_one_row_more_than_line_feeds(self):
        for text in TEXTS:
            self.assertEqual(len(rows_of(text)), text.count("\n") + 1)

    def test_each_takes_the_other_back(self):
        for text in TEXTS:
            rows = rows_of(text)
            self.assertEqual(text_of(rows), text)
            self.assertEqual(rows_of(text_of(rows)), rows)

    def test_sorts_told(self):
        for text in TEXTS:
            self.assertIs(type(rows_of(text)), list)
            self.assertTrue(all(type(row) is str for row in rows_of(text)))
            self.assertIs(type(text_of(rows_of(text))), str)

    def test_text_of_a_tuple_too(self):
        for text in TEXTS:
            self.assertEqual(text_of(tuple(rows_of(text))), text)
        self.assertEqual(text_of(("a", "", "b")), "a\n\nb")
        self.assertEqual(text_of(["a", "", "b"]), "a\n\nb")

    def test_told_list_is_the_askers_own(self):
        text = "a\nb\n"
        first = rows_of(text)
        second = rows_of(text)
        self.assertIsNot(first, second)
        first[0] = "x"
        first.append("y")
        del first[1]
        self.assertEqual(second, ["a", "b", ""])
        self.assertEqual(rows_of(text), ["a", "b", ""])

    def test_handed_in_list_stays(self):
        rows = ["a", "", "b"]
        self.assertEqual(text_of(rows), "a\n\nb")
        self.assertEqual(rows, ["a", "", "b"])
        rows.append("c")
        self.assertEqual(text_of(rows), "a\n\nb\nc")

    def test_arguments_by_their_names(self):
        self.assertEqual(rows_of(text="a\nb"), ["a", "b"])
        self.assertEqual(text_of(rows=["a", "b"]), "a\nb")

    def test_beyond_the_bounds_there_is_no_refusal(self):
        text = "\n".join(["a" * 61] * 25)
        self.assertEqual(rows_of(text), ["a" * 61] * 25)
        self.assertEqual(text_of(["a" * 61] * 25), text)


class TestPlaces(unittest.TestCase):
    def test_told(self):
        text = "ab\n\ncd"
        pairs = [(0, 0), (0, 1), (0, 2), (1, 0), (2, 0), (2, 1), (2, 2)]
        self.assertEqual([spot(text, at) for at in range(7)], pairs)
        self.assertEqual([at_of(text, row, column) for row, column in pairs], list(range(7)))

    def test_bare_text(self):
        self.assertEqual(spot("", 0), (0, 0))
        self.assertEqual(at_of("", 0, 0), 0)

    def test_line_feed_is_its_rows_end(self):
        for text in TEXTS:
            rows = rows_of(text)
            for at, sign in enumerate(text):
                if sign == "\n":
                    row, column = spot(text, at)
                    self.assertEqual(column, len(rows[row]))
                    self.assertEqual(spot(text, at + 1), (row + 1, 0))

    def test_end(self):
        for text in TEXTS:
            rows = rows_of(text)
            pair = (len(rows) - 1, len(rows[-1]))
            self.assertEqual(spot(text, len(text)), pair)
            self.assertEqual(at_of(text, *pair), len(text))

    def test_every_place(self):
        for text in TEXTS:
            for at, pair in enumerate(walked(text)):
                self.assertEqual(spot(text, at), pair)
                self.assertEqual(at_of(text, *pair), at)

    def test_every_pair(self):
        for text in TEXTS:
            for row, signs in enumerate(rows_of(text)):
                for column in range(len(signs) + 1):
                    self.assertEqual(spot(text, at_of(text, row, column)), (row, column))

    def test_sorts_told(self):
        for text, at in (("", 0), ("a", 1), ("a\nb", 0), ("a\nb", 2), ("a\nb", 3)):
            pair = spot(text, at)
            self.assertIs(type(pair), tuple)
            self.assertEqual([type(number) for number in pair], [int, int])
            self.assertIs(type(at_of(text, *pair)), int)

    def test_arguments_by_their_names(self):
        self.assertEqual(spot(text="ab\ncd", at=4), (1, 1))
        self.assertEqual(spot(at=4, text="ab\ncd"), (1, 1))
        self.assertEqual(at_of(text="ab\ncd", row=1, column=1), 4)
        self.assertEqual(at_of(column=1, row=1, text="ab\ncd"), 4)
        self.assertEqual(at_of("ab\ncd", column=2, row=0), 2)

    def test_beyond_the_bounds_there_is_no_refusal(self):
        text = "\n".join(["a" * 61] * 25)
        for at, pair in enumerate(walked(text)):
            self.assertEqual(spot(text, at), pair)
            self.assertEqual(at_of(text, *pair), at)


if __name__ == "__main__":
    unittest.main()
