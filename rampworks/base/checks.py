"""What values have to be before anything is reckoned with them."""

from rampworks.errors import InvalidNumber

# Integers that are passed have at most sixty digits.
BEYOND = 10 ** 60
BENEATH = -10 ** 60


def is_whole(value):
    """Whether the value is an integer, of any length."""
    return isinstance(value, int) and value is not True and value is not False


def is_short(value):
    """Whether the value is an integer that can be passed."""
    return is_whole(value) and BENEATH < value < BEYOND


def are_short(values):
    """Whether all of the values are integers that can be passed."""
    # What is_short tells, without a call for each of them.
    for x in values:
        if not isinstance(x, int) or x is True or x is False or x <= BENEATH or x >= BEYOND:
            return False
    return True


def are_whole(values):
    """Whether all of the values are integers, of any length."""
    for x in values:
        if not isinstance(x, int) or x is True or x is False:
            return False
    return True


def is_short_row(value, least, most):
    """Whether the value is a tuple of so many integers that can be passed."""
    return isinstance(value, tuple) and least <= len(value) <= most and are_short(value)


def is_whole_row(value, many):
    """Whether the value is a tuple of just so many integers, of any length."""
    return isinstance(value, tuple) and len(value) == many and are_whole(value)


def are_weights(value, many):
    """Whether the value is a tuple of just so many integers from 0 on, of any length."""
    return is_whole_row(value, many) and (many == 0 or min(value) >= 0)


def are_short_rows(value, most_rows, most_length):
    """Whether the value is a tuple of rows of one length, at least one, within the bounds."""
    if not isinstance(value, tuple) or not 1 <= len(value) <= most_rows:
        return False
    if not isinstance(value[0], tuple) or not 1 <= len(value[0]) <= most_length:
        return False
    length = len(value[0])
    for row in value:
        if not isinstance(row, tuple) or len(row) != length:
            return False
        for x in row:
            if not isinstance(x, int) or x is True or x is False or x <= BENEATH or x >= BEYOND:
                return False
    return True


def are_ascending(values):
    """Whether each of the values is below the next one."""
    last = values[0]
    for value in values[1:]:
        if value <= last:
            return False
        last = value
    return True


def is_told(value, word, many):
    """Whether the value is a tuple of so many members that begins with the word."""
    return isinstance(value, tuple) and len(value) == many and value[0] == word


def is_just(value, told):
    """Whether the value is the told one, of integers, strings and tuples, with members of the same kinds."""
    if isinstance(told, tuple):
        if not isinstance(value, tuple) or len(value) != len(told):
            return False
        for x, y in zip(value, told):
            if not is_just(x, y):
                return False
        return True
    if isinstance(told, str):
        return isinstance(value, str) and value == told
    return is_whole(value) and value == told


def need_number(number):
    """Refuses what is no integer that can be passed."""
    if not is_short(number):
        raise InvalidNumber(number)


def need_index(index, many):
    """Refuses what is no index of one of so many."""
    if not is_short(index) or not 0 <= index < many:
        raise InvalidNumber(index)
