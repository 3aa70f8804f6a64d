"""What numbers, words and numerals are."""

from coldcrates.errors import InvalidNumber

LETTERS = "abcdefghijklmnopqrstuvwxyz"
LONGEST_WORD = 8
DIGITS = "0123456789"
MOST_DIGITS = 2


def is_number(value, low, high):
    """Tell whether a value is an integer from low to high."""
    # Python counts True and False as integers, the document does not.
    return isinstance(value, int) and not isinstance(value, bool) and low <= value <= high


def check_number(value, low, high):
    """Raise InvalidNumber if a value is no integer from low to high."""
    if not is_number(value, low, high):
        raise InvalidNumber(f"this is no number from {low} to {high}")


def is_word(value):
    """Tell whether a value is a word of one to eight letters a to z."""
    if not isinstance(value, str) or not 1 <= len(value) <= LONGEST_WORD:
        return False
    return all([letter in LETTERS for letter in value])


def is_numeral(word):
    """Tell whether a text is a number of one or two digits without needless zeros."""
    # Other scripts have digits, too, which isdigit would take.
    if not 1 <= len(word) <= MOST_DIGITS or not all([digit in DIGITS for digit in word]):
        return False
    return word == "0" or word[0] != "0"
