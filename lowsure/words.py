"""What the whole program takes for an integer, a name and a written number."""

WORDS = ("function", "let", "repeat", "by", "times", "give", "half", "over", "to", "if", "mod", "is", "then", "else")
LIMIT = 2 ** 64
LONGEST_NAME = 8
MOST_DIGITS = 20


def is_integer(value):
    """Whether the value is an integer; True and False are none."""
    return isinstance(value, int) and not isinstance(value, bool)


def is_between(value, least, most):
    """Whether the value is an integer from `least` to `most`."""
    return is_integer(value) and least <= value <= most


def is_small(value):
    """Whether the value is an integer that may stand in nodes and texts."""
    return is_integer(value) and -LIMIT < value < LIMIT


def is_name(value):
    """Whether the value is a name."""
    if not isinstance(value, str) or not 1 <= len(value) <= LONGEST_NAME:
        return False
    return value not in WORDS and all(["a" <= letter <= "z" for letter in value])


def digits_value(word):
    """The number that a word of at most 20 digits stands for, or None."""
    # A longer word is refused before int reads it, since int itself fails for thousands of digits.
    if not 1 <= len(word) <= MOST_DIGITS or (word.startswith("0") and word != "0"):
        return None
    if not all(["0" <= letter <= "9" for letter in word]):
        return None
    return int(word)


def signed_value(word):
    """The integer that a word stands for, with a `-` before it or without one, or None."""
    if not word.startswith("-"):
        return digits_value(word)
    value = digits_value(word[1:])
    return None if value is None or value == 0 else -value


def number_value(word):
    """The integer within the limits that a word stands for, or None."""
    value = signed_value(word)
    return value if is_small(value) else None
