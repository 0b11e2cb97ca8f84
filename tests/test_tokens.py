"""Point [5]: what stands in a row."""

import random
import re
import unittest

from helpers import SIGNS, same, told_anew
from typedahead import tokens as tokens_file
from typedahead.tokens import tokens
from typedahead.words import HELD

# Another way to find them: told in one pattern, and sorted behind that.
FOUND = re.compile(r'[a-z]+|[0-9]+|"[^"]*"|"[^"]*\Z|[^ ]')


def sort_of(text):
    """The sort of a token by its text."""
    if text[0] == '"':
        return "word" if len(text) > 1 and text[-1] == '"' else "odd"
    if re.match(r"[a-z]", text):
        return "held" if text in HELD else "name" if len(text) < 9 else "odd"
    if text[0] in "0123456789":
        return "number" if len(text) < 7 else "odd"
    return "sign" if text in "()[],=+-*&<" else "odd"


def found(row):
    """The row's tokens, by the pattern."""
    return [(sort_of(each.group()), each.group(), each.start()) for each in FOUND.finditer(row)]


class TestTokens(unittest.TestCase):
    def alone(self, sort, text):
        """Checks that the text is one token of that sort, alone and between blanks."""
        same(self, tokens(text), [(sort, text, 0)])
        if not text.startswith('"') or sort == "word":
            same(self, tokens("  " + text + "  "), [(sort, text, 2)])

    def test_defined_in_their_file(self):
        self.assertEqual(tokens.__module__, tokens_file.__name__)

    def test_row_of_all_sorts(self):
        same(self, tokens('let ab = [7, "x y"] at 0 ;'), [
            ("held", "let", 0), ("name", "ab", 4), ("sign", "=", 7), ("sign", "[", 9), ("number", "7", 10),
            ("sign", ",", 11), ("word", '"x y"', 13), ("sign", "]", 18), ("held", "at", 20),
            ("number", "0", 23), ("odd", ";", 25),
        ])

    def test_bare_and_blank_rows(self):
        for many in (0, 1, 2, 60):
            same(self, tokens(" " * many), [])

    def test_held_words(self):
        for word in HELD:
            self.alone("held", word)
            same(self, tokens(word + word), found(word + word))

    def test_letters_that_begin_as_held_words(self):
        for word in HELD:
            self.alone("name" if len(word) < 8 else "odd", word + "x")
            self.alone("name", "x" + word)
        for text in ("tak", "le", "iff", "thenn", "elsewhere"[:8], "yess", "nope", "atall", "numb", "wordy", "flagss"):
            self.alone("name", text)

    def test_names_up_to_eight_letters(self):
        for many in range(1, 9):
            self.alone("name", "abcdefgh"[:many])
        self.alone("odd", "abcdefghi")
        self.alone("odd", "z" * 60)
        self.alone("odd", "letletlet")

    def test_numbers_up_to_six_figures(self):
        for many in range(1, 7):
            self.alone("number", "123456"[:many])
            self.alone("number", "0" * many)
        self.alone("odd", "1234567")
        self.alone("odd", "0000000")
        self.alone("odd", "9" * 60)

    def test_letters_and_figures_part(self):
        same(self, tokens("a1b22"), [
            ("name", "a", 0), ("number", "1", 1), ("name", "b", 2), ("number", "22", 3)])
        same(self, tokens("1let"), [("number", "1", 0), ("held", "let", 1)])
        same(self, tokens("let1"), [("held", "let", 0), ("number", "1", 3)])

    def test_words_in_quotes(self):
        for text in ('""', '"a"', '"let"', '" "', '"   "', '"7"', '"()[],=+-*&<"', '"A~;"', '"' + "x" * 58 + '"'):
            self.alone("word", text)
        same(self, tokens('"a""b"'), [("word", '"a"', 0), ("word", '"b"', 3)])
        same(self, tokens('x"a b"y'), [("name", "x", 0), ("word", '"a b"', 1), ("name", "y", 6)])

    def test_quote_without_a_next_one(self):
        for text in ('"', '"a', '"a b  ', '" ', '"let a = 1', '"(),'):
            same(self, tokens(text), [("odd", text, 0)])
            same(self, tokens("a " + text), [("name", "a", 0), ("odd", text, 2)])
        same(self, tokens('"""'), [("word", '""', 0), ("odd", '"', 2)])
        same(self, tokens('"a" "b '), [("word", '"a"', 0), ("odd", '"b ', 4)])

    def test_each_sign_of_the_language(self):
        for sign in "()[],=+-*&<":
            self.alone("sign", sign)
            same(self, tokens(sign + sign), [("sign", sign, 0), ("sign", sign, 1)])

    def test_each_other_sign_by_itself(self):
        others = [sign for sign in SIGNS if not re.match(r'[a-z0-9()\[\],=+\-*&<" ]', sign)]
        self.assertEqual(len(others), 94 - 26 - 10 - 11 - 2)
        for sign in others:
            self.alone("odd", sign)
            same(self, tokens("a" + sign + sign + "b"), [
                ("name", "a", 0), ("odd", sign, 1), ("odd", sign, 2), ("name", "b", 3)])

    def test_capitals(self):
        same(self, tokens("Let A"), [("odd", "L", 0), ("name", "et", 1), ("odd", "A", 4)])

    def test_blanks_ahead_and_behind(self):
        same(self, tokens("   a    b   "), [("name", "a", 3), ("name", "b", 8)])

    def test_columns_say_where_they_stand(self):
        for row in ROWS:
            for _, text, column in tokens(row):
                self.assertEqual(row[column:column + len(text)], text)

    def test_as_the_pattern_finds_them(self):
        for row in ROWS:
            same(self, tokens(row), found(row))

    def test_told_anew(self):
        told_anew(self, lambda: tokens("let a = 1"))

    def test_argument_by_its_name(self):
        same(self, tokens(row="a"), [("name", "a", 0)])


CHANCE = random.Random(5)
ROWS = ["".join(CHANCE.choice(SIGNS) for _ in range(CHANCE.randrange(61))) for _ in range(300)]
ROWS += ["".join(CHANCE.choice('  ab1"(),=+at[]') for _ in range(CHANCE.randrange(61))) for _ in range(300)]
ROWS += ["".join(CHANCE.choice(HELD + ("ab", " ", " ", "12", '"', "<", ";")) for _ in range(12)) for _ in range(300)]


if __name__ == "__main__":
    unittest.main()
