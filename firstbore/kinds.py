"""What is an integer, a number, a name, a sequence or a numeral."""

LETTERS = "abcdefghijklmnopqrstuvwxyz"
DIGITS = "0123456789"
MOST_LETTERS = 4
MOST_DIGITS = 19


def is_integer(value):
    """Tell whether any value is an integer."""
    # Python counts a bool as an int.
    return isinstance(value, int) and not isinstance(value, bool)


def is_number(value):
    """Tell whether any value is an integer from 0 on."""
    return is_integer(value) and value >= 0


def is_sequence(value):
    """Tell whether any value is a list or a tuple."""
    return isinstance(value, (list, tuple))


def is_tuple_of(value, many):
    """Tell whether any value is a tuple of so many things."""
    return isinstance(value, tuple) and len(value) == many


def consists_of(text, signs):
    """Tell whether each character of a text is one of the signs."""
    return all([sign in signs for sign in text])


def is_name(value):
    """Tell whether any value is a string of 1 to 4 lower-case letters."""
    return isinstance(value, str) and 1 <= len(value) <= MOST_LETTERS and consists_of(value, LETTERS)


def is_numeral(word):
    """Tell whether a word is at most 19 digits without a leading zero."""
    if not 1 <= len(word) <= MOST_DIGITS or not consists_of(word, DIGITS):
        return False
    return word == "0" or word[0] != "0"
