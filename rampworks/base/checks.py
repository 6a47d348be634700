"""What values have to be before anything is reckoned with them."""

from rampworks.errors import InvalidNumber

# Integers that are passed have at most sixty digits.
BEYOND = 10 ** 60


def is_whole(value):
    """Whether the value is an integer, of any length."""
    return isinstance(value, int) and not isinstance(value, bool)


def is_short(value):
    """Whether the value is an integer that can be passed."""
    return is_whole(value) and -BEYOND < value < BEYOND


def is_short_row(value, least, most):
    """Whether the value is a tuple of so many integers that can be passed."""
    return isinstance(value, tuple) and least <= len(value) <= most and all([is_short(x) for x in value])


def is_whole_row(value, many):
    """Whether the value is a tuple of just so many integers, of any length."""
    return isinstance(value, tuple) and len(value) == many and all([is_whole(x) for x in value])


def are_weights(value, many):
    """Whether the value is a tuple of just so many integers from 0 on, of any length."""
    return is_whole_row(value, many) and all([x >= 0 for x in value])


def are_short_rows(value, most_rows, most_length):
    """Whether the value is a tuple of rows of one length, at least one, within the bounds."""
    if not isinstance(value, tuple) or not 1 <= len(value) <= most_rows:
        return False
    if not all([is_short_row(row, 1, most_length) for row in value]):
        return False
    return all([len(row) == len(value[0]) for row in value])


def are_ascending(values):
    """Whether each of the values is below the next one."""
    return all([one < other for one, other in zip(values, values[1:])])


def is_told(value, word, many):
    """Whether the value is a tuple of so many members that begins with the word."""
    return isinstance(value, tuple) and len(value) == many and isinstance(value[0], str) and value[0] == word


def need_number(number):
    """Refuses what is no integer that can be passed."""
    if not is_short(number):
        raise InvalidNumber(number)


def need_index(index, many):
    """Refuses what is no index of one of so many."""
    if not is_short(index) or not 0 <= index < many:
        raise InvalidNumber(index)
