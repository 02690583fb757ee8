"""What form a value has. A list is no tuple here, and True is no integer."""

LETTERS = "abcdefghijklmnopqrstuvwxyz"


def is_integer(value):
    return isinstance(value, int) and not isinstance(value, bool)


def is_from_to(value, low, high):
    """Whether this is an integer from low to high."""
    return is_integer(value) and low <= value <= high


def is_number_of(value, some):
    """Whether this is the number of one of these."""
    return is_from_to(value, 0, len(some) - 1)


def is_row(value, many):
    """Whether this is a tuple of so many values."""
    return isinstance(value, tuple) and len(value) == many


def is_told(value, word, many):
    """Whether this is a tuple of so many values that begins with this word."""
    return is_row(value, many) and value[0] == word


def is_same(value, right):
    """Whether any value is this right one, of tuples, integers, strings and None, at each depth."""
    if isinstance(right, tuple):
        return is_row(value, len(right)) and all([is_same(one, other) for one, other in zip(value, right)])
    return not isinstance(value, bool) and value == right


def is_one_of(value, rights):
    """Whether any value is one of these right ones."""
    return any([is_same(value, right) for right in rights])


def is_name(value):
    if not isinstance(value, str) or not 1 <= len(value) <= 8:
        return False
    return all([sign in LETTERS for sign in value])


def are_names(some):
    """Whether these are unlike names."""
    # Only names go into the set: other values may be such as no set takes.
    return all([is_name(name) for name in some]) and len(set(some)) == len(some)


def are_bits(value, many):
    """Whether this is a string of so many of the characters 0 and 1."""
    return isinstance(value, str) and len(value) == many and all([sign in "01" for sign in value])


def all_bits(many):
    """All strings of so many of the characters 0 and 1, ascending."""
    rows = [""]
    for _ in range(many):
        rows = [row + sign for row in rows for sign in "01"]
    return rows


def wrong_line(text, can_stand, is_whole):
    """The number by which a text is refused, None if it is not.

    can_stand tells of lines and of one behind them whether it can stand there,
    is_whole tells of lines that all can stand where they do whether none is missing.
    """
    if not isinstance(text, str):
        return 0
    lines = text.split("\n")
    for number, line in enumerate(lines):
        if not can_stand(lines[:number], line):
            return number + 1
    return None if is_whole(lines) else len(lines) + 1
