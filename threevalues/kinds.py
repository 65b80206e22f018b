"""The questions that the modules ask of what they are passed, which may be of any kind."""

from threevalues.errors import InvalidOrder, InvalidTable

# The length of a table of one place, of two and of three.
LENGTHS = (3, 9, 27)


def is_integer(x):
    """Whether x is an integer; True and False are none."""
    return isinstance(x, int) and not isinstance(x, bool)


def is_index(x, count):
    """Whether x is an integer from 0 up to count - 1."""
    return is_integer(x) and 0 <= x < count


def is_value(x):
    """Whether x is one of the integers 0, 1 and 2."""
    return is_index(x, 3)


def are_arguments(x, count):
    """Whether x is a tuple of values for so many places."""
    return isinstance(x, tuple) and len(x) == count and all([is_value(y) for y in x])


def is_order(x, count):
    """Whether x is a tuple that has each integer from 0 up to count - 1 once."""
    if not isinstance(x, tuple) or not all([is_integer(y) for y in x]):
        return False
    return sorted(x) == list(range(count))


def is_table(x):
    """Whether x is a table."""
    if not isinstance(x, str) or len(x) not in LENGTHS:
        return False
    return all([sign in "012" for sign in x])


def is_of_one_place(x):
    """Whether x is a table of one place."""
    return is_table(x) and len(x) == LENGTHS[0]


def are_tables(x, count):
    """Whether x is a tuple of so many tables, all of one number of places."""
    if not isinstance(x, tuple) or len(x) != count or not all([is_table(y) for y in x]):
        return False
    return all([len(y) == len(x[0]) for y in x])


def must_be_table(x):
    """Raises InvalidTable if x is no table."""
    if not is_table(x):
        raise InvalidTable(x)


def must_be_order(x, count):
    """Raises InvalidOrder if x is no tuple that has each integer from 0 up to count - 1 once."""
    if not is_order(x, count):
        raise InvalidOrder(x)
