"""Numbers and words in texts, of any length [14.2]."""

from teamtells.base.kinds import ALPHABET

DIGITS = "0123456789"
# An integer that is passed has at most so many digits [0.1].
MOST_DIGITS = 60


def is_number(text):
    """Whether the text is that of a number: digits without leading zeros."""
    if text == "" or not all([sign in DIGITS for sign in text]):
        return False
    return text == "0" or text[0] != "0"


def are_numbers(texts, many):
    """Whether these are the texts of just so many numbers."""
    return len(texts) == many and all([is_number(text) for text in texts])


def number_of(text):
    """The number with this text; for one of too many digits another one that has too many."""
    # It is out of each range in any case, and Python refuses to read texts of some thousand digits.
    return int(text[:MOST_DIGITS + 1])


def is_word(text):
    """Whether the text has one or more letters from a to z, and nothing else."""
    return text != "" and all([letter in ALPHABET for letter in text])
