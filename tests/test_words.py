"""Point [2] and the interface: HELD, KINDS, is_name."""

import string
import unittest

from typedahead import words
from typedahead.words import HELD, KINDS, is_name


def nested(depth):
    """A list in a tuple in a list, so many deep, with a NAME in the innermost."""
    thing = "a"
    for level in range(depth):
        thing = [thing] if level % 2 else (thing,)
    return thing


NO_TEXTS = [
    0, 1, -1, 10 ** 30, True, False, None, [], (), ["a"], ("a",), ["a", "b"], ("let",),
    [None, [True, (0, "a")]], list(HELD), HELD, nested(40), ["a"] * 4000,
]


class TestLists(unittest.TestCase):
    def test_held_words_in_the_documents_order(self):
        self.assertEqual(HELD, (
            "take", "let", "def", "if", "then", "else", "yes", "no", "at",
            "num", "word", "flag", "nums", "words", "flags",
        ))

    def test_kinds_in_the_documents_order(self):
        self.assertEqual(KINDS, ("num", "word", "flag", "nums", "words", "flags"))

    def test_both_are_tuples_of_texts(self):
        for told in (HELD, KINDS):
            self.assertIs(type(told), tuple)
            self.assertTrue(all(type(word) is str for word in told))


class TestIsName(unittest.TestCase):
    def yes(self, thing):
        self.assertIs(is_name(thing), True, repr(thing))

    def no(self, thing):
        self.assertIs(is_name(thing), False, repr(thing))

    def test_is_defined_in_its_file(self):
        self.assertEqual(is_name.__module__, words.__name__)

    def test_each_letter_alone(self):
        for letter in string.ascii_lowercase:
            self.yes(letter)

    def test_each_length(self):
        for many in range(1, 9):
            self.yes("a" * many)
            self.yes("abcdefgh"[:many])
            self.yes("z" * many)

    def test_none_and_too_many(self):
        self.no("")
        for many in (9, 10, 16, 60, 1440, 5000):
            self.no("a" * many)
        self.no("abcdefghi")

    def test_held_words(self):
        for word in HELD:
            self.no(word)

    def test_next_to_held_words(self):
        for word in HELD:
            for other in (word + "x", "x" + word, word[:-1] + "q", word + word[-1]):
                if other not in HELD and len(other) <= 8:
                    self.yes(other)
            self.no(word.upper())
            self.no(word.capitalize())
            self.no(word + " ")
        for other in ("tak", "ta", "le", "de", "i", "i" * 2, "ye", "n", "a", "nu", "flagsa", "ats"):
            self.yes(other)

    def test_capitals(self):
        for letter in string.ascii_uppercase:
            self.no(letter)
            self.no("a" + letter)
            self.no(letter + "a")
            self.no("a" + letter + "a")

    def test_figures(self):
        for figure in string.digits:
            self.no(figure)
            self.no("a" + figure)
            self.no(figure + "a")

    def test_every_other_sign_and_line_feed(self):
        for number in [10, *range(32, 127)]:
            sign = chr(number)
            if sign not in string.ascii_lowercase:
                for text in (sign, "a" + sign, sign + "a", "ab" + sign + "cd"):
                    self.no(text)

    def test_letters_of_other_alphabets(self):
        for text in ("\u00e9", "caf\u00e9", "\u00df", "\u03b1", "\u00aa", "\uff41"):
            self.no(text)

    def test_things_that_are_no_texts(self):
        for thing in NO_TEXTS:
            self.no(thing)

    def test_argument_by_name(self):
        self.assertIs(is_name(thing="price"), True)
        self.assertIs(is_name(thing="let"), False)

    def test_leaves_what_is_handed_in(self):
        thing = ["a", ["b", ("c",)]]
        is_name(thing)
        self.assertEqual(thing, ["a", ["b", ("c",)]])

    def test_same_question_same_answer(self):
        for thing in ("a", "let", "", ["a"]):
            self.assertIs(is_name(thing), is_name(thing))


if __name__ == "__main__":
    unittest.main()
