"""What kinds of integers, of rows of integers, and of names any value can be."""

MOST_FIGURES = 9
MOST_LETTERS = 8


def is_number(value):
    """Whether any value is an integer; a bool is none."""
    return isinstance(value, int) and not isinstance(value, bool)


def is_within(value, low, high):
    """Whether any value is an integer from low to high."""
    return is_number(value) and low <= value <= high


def is_order(value, many):
    """Whether any value is a tuple in which each number from 0 on, below many, stands once."""
    if not isinstance(value, tuple) or not all([is_number(part) for part in value]):
        return False
    return sorted(value) == list(range(many))


def is_name(value):
    """Whether any value is a name: one to eight letters a to z."""
    if not isinstance(value, str) or not 1 <= len(value) <= MOST_LETTERS:
        return False
    return all(["a" <= letter <= "z" for letter in value])


def read_number(word):
    """The number from 0 on that a word of a text tells; None if it is not written as told."""
    if not (word.isascii() and word.isdigit()) or len(word) > MOST_FIGURES:
        return None
    number = int(word)
    return number if str(number) == word else None
