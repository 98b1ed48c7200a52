"""Integers, names, and the words of texts."""

LETTERS = "abcdefghijklmnopqrstuvwxyz"
DIGITS = "0123456789"
LONGEST_NAME = 8
MOST_DIGITS = 30
BILLION = 1000000000


def is_integer(value):
    """Return True if a value is an integer other than True and False."""
    return isinstance(value, int) and not isinstance(value, bool)


def is_count(value):
    """Return True if a value is an integer from 0 on."""
    return is_integer(value) and value >= 0


def is_name(value):
    """Return True if a value is a string of one to eight letters from a to z."""
    if not isinstance(value, str) or not 1 <= len(value) <= LONGEST_NAME:
        return False
    return all([letter in LETTERS for letter in value])


def is_decimal(text):
    """Return True if a string is an integer as it is written: no other sign, no zero too many."""
    digits = text.removeprefix("-")
    if not 1 <= len(digits) <= MOST_DIGITS:
        return False
    # isdigit() would let digits of other scripts pass.
    if not all([digit in DIGITS for digit in digits]):
        return False
    return digits[0] != "0" or text == "0"


def parse_integer(text, *, low=None, high=None):
    """Return the integer that a text represents, or None if it is none or out of its bounds."""
    if not isinstance(text, str) or not is_decimal(text):
        return None
    number = int(text)
    if low is not None and number < low:
        return None
    if high is not None and number > high:
        return None
    return number


def written(number):
    """Return an integer in decimal notation, however long it is: str() refuses those of some thousand digits."""
    if number < 0:
        return f"-{written(-number)}"
    rest = number
    parts = []
    while rest >= BILLION:
        rest, part = divmod(rest, BILLION)
        parts.append(f"{part:09d}")
    parts.append(str(rest))
    return "".join(parts[::-1])


def split_words(text):
    """Return the parts of a text between single spaces, or None if one of them is empty."""
    if not isinstance(text, str):
        return None
    words = text.split(" ")
    if "" in words:
        return None
    return words
