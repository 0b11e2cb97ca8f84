"""The words of the language: those that are held, the kinds, and what a NAME is."""

HELD = (
    "take", "let", "def", "if", "then", "else", "yes", "no", "at",
    "num", "word", "flag", "nums", "words", "flags",
)
KINDS = ("num", "word", "flag", "nums", "words", "flags")
MOST_LETTERS = 8


def is_name(thing):
    """Whether the thing is a NAME."""
    if not isinstance(thing, str) or thing in HELD:
        return False
    # A longer text is answered before its letters are looked at.
    return 1 <= len(thing) <= MOST_LETTERS and all([is_letter(sign) for sign in thing])


def is_letter(sign):
    """Whether the sign is one of a to z."""
    return "a" <= sign <= "z"
