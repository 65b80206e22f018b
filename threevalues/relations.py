"""The eighteen relations, told by their words, and which tables keep them."""

from threevalues.errors import InvalidWord
from threevalues.kinds import LENGTHS, must_be_order, must_be_table
from threevalues.tables import (
    all_arguments, all_tables, all_ways, counting, is_onto, made_from, places, values_of,
)

WORDS = (
    "set 0", "set 1", "set 2", "set 01", "set 02", "set 12",
    "part 0", "part 1", "part 2",
    "turn",
    "sums",
    "chain 0", "chain 1", "chain 2",
    "centre 0", "centre 1", "centre 2",
    "mixed",
)


def is_word(x):
    """Whether x is one of the eighteen words."""
    return isinstance(x, str) and x in WORDS


def must_be_word(x):
    """Raises InvalidWord if x is none of the eighteen words."""
    if not is_word(x):
        raise InvalidWord(x)


def relation(word):
    """The ascending tuple of all tuples of the relation."""
    must_be_word(word)
    kind, _, told = word.partition(" ")
    if kind == "set":
        return tuple([(int(sign),) for sign in told])
    if kind == "turn":
        return (0, 1), (1, 2), (2, 0)
    if kind == "sums":
        return tuple([row for row in all_arguments(4) if (row[0] + row[1] - row[2] - row[3]) % 3 == 0])
    if kind == "mixed":
        return tuple([row for row in all_arguments(3) if len(set(row)) < 3])
    return tuple([row for row in all_arguments(2) if is_pair(kind, int(told), row)])


def is_pair(kind, told, row):
    """Whether the pair is one of the relation of a part, a chain or a centre with the told value."""
    x, y = row
    if x == y:
        return True
    if kind == "part":
        return told not in row
    if kind == "centre":
        return told in row
    low, high = [other for other in (0, 1, 2) if other != told]
    return row in ((low, told), (low, high), (told, high))


def is_sum(table):
    """Whether the table is, by remainders, a sum of multiples of its arguments and of a number."""
    number = int(table[0])
    # The entry where one argument is 1 and the others are 0 tells the multiple of that argument.
    factors = [int(table[len(table) // length]) - number for length in LENGTHS[:places(table)]]
    values = values_of(table)
    for row in values:
        total = number + sum([factor * x for factor, x in zip(factors, row)])
        if total % 3 != values[row]:
            return False
    return True


def first_out(table, word):
    """The first rows of the relation from which the table makes no tuple of it; None if there are none."""
    values = values_of(table)
    rows_allowed = relation(word)
    for rows in all_ways([rows_allowed] * places(table)):
        if made_from(values, rows) not in rows_allowed:
            return rows
    return None


def keeps(table, word):
    """Whether the table keeps the relation."""
    must_be_table(table)
    must_be_word(word)
    # These two have so many rows that a table of three places is better asked for what it is.
    if word == "sums":
        return is_sum(table)
    if word == "mixed":
        return not is_onto(table) or len(counting(table)) < 2
    return first_out(table, word) is None


def leads_out(table, word):
    """None if the table keeps the relation, otherwise rows of it that lead out."""
    if keeps(table, word):
        return None
    return first_out(table, word)


def kept_by(table):
    """The tuple of all words that the table keeps, in their order."""
    must_be_table(table)
    return tuple([word for word in WORDS if keeps(table, word)])


def keepers(word):
    """The ascending tuple of all tables of one place that keep the relation."""
    must_be_word(word)
    return tuple([table for table in all_tables() if keeps(table, word)])


def least_breaker(word):
    """The least table of one place that does not keep the relation, or, if there is none, of two places."""
    must_be_word(word)
    for table in all_tables():
        if not keeps(table, word):
            return table
    for signs in all_ways(["012"] * LENGTHS[1]):
        table = "".join(signs)
        if not keeps(table, word):
            return table
    return None


def renamed_word(word, order):
    """The word of the relation with the values exchanged, or of this one gone back, pair by pair."""
    must_be_word(word)
    must_be_order(order, 3)
    moved = [tuple([order[x] for x in row]) for row in relation(word)]
    back = [row[::-1] for row in moved]
    for other in WORDS:
        if relation(other) in (tuple(sorted(moved)), tuple(sorted(back))):
            return other
    return None
