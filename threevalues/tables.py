"""Tables of one, two or three places, as strings of the digits 0, 1 and 2."""

from threevalues.errors import InvalidArguments, InvalidTables
from threevalues.kinds import LENGTHS, are_arguments, are_tables, must_be_order, must_be_table


def index_at(arguments):
    """The number that the arguments write with base 3, the first one first."""
    at = 0
    for x in arguments:
        at = 3 * at + x
    return at


def all_ways(lots):
    """The list of all tuples that take one thing of each lot, ordered by the first lot, then by the second one."""
    rows = [()]
    for lot in lots:
        rows = [row + (x,) for row in rows for x in lot]
    return rows


def all_arguments(count):
    """The list of all arguments for so many places, each at the index that it writes."""
    return all_ways([(0, 1, 2)] * count)


def values_of(table):
    """A dict of the values of the table, by their arguments."""
    return {row: int(sign) for row, sign in zip(all_arguments(places(table)), table)}


def made_from(values, rows):
    """What a table with these values makes from rows of values, one for each place, all of one length."""
    return tuple([values[arguments] for arguments in zip(*rows)])


def value(table, arguments):
    """The value of the table at the arguments."""
    many = places(table)
    if not are_arguments(arguments, many):
        raise InvalidArguments(arguments)
    return int(table[index_at(arguments)])


def places(table):
    """How many places the table has."""
    must_be_table(table)
    # Properties run this, so it calls no method with the name that the errors' attribute `index` has.
    return len([length for length in LENGTHS if length <= len(table)])


def counts(table, place):
    """Whether the place of the table counts."""
    # One more at this place moves the index by so much.
    stride = len(table) // LENGTHS[place]
    starts = [at for at in range(len(table)) if at // stride % 3 == 0]
    return any([len(set(table[at:at + 3 * stride:stride])) > 1 for at in starts])


def counting(table):
    """The ascending tuple of the places of the table that count."""
    return tuple([place for place in range(places(table)) if counts(table, place)])


def is_onto(table):
    """Whether each of the values is one of the table."""
    must_be_table(table)
    return all([sign in table for sign in "012"])


def fixed(table):
    """The ascending tuple of the values that the table gives back where all its arguments are this value."""
    many = places(table)
    return tuple([a for a in (0, 1, 2) if value(table, (a,) * many) == a])


def digits_of(table):
    """The triple of the numbers of the digits 0, 1 and 2 of the table."""
    must_be_table(table)
    return table.count("0"), table.count("1"), table.count("2")


def renamed(table, order):
    """The table with the values exchanged: order[x] in the place of each value x, of the arguments, too."""
    must_be_table(table)
    must_be_order(order, 3)
    signs = [""] * len(table)
    for arguments, sign in zip(all_arguments(places(table)), table):
        signs[index_at([order[x] for x in arguments])] = str(order[int(sign)])
    return "".join(signs)


def put_together(table, tables):
    """The table that, for all arguments, gives the value of the table at the values of the tables."""
    many = places(table)
    if not are_tables(tables, many):
        raise InvalidTables(tables)
    return "".join([table[int("".join(signs), 3)] for signs in zip(*tables)])


def turned_round(table, places_order):
    """The table that gives, at some arguments, the value of the table at the same ones in another order."""
    many = places(table)
    must_be_order(places_order, many)
    rows = all_arguments(many)
    return "".join([table[index_at([row[k] for k in places_order])] for row in rows])


def all_tables():
    """The ascending tuple of all tables of one place."""
    return tuple(["".join([str(x) for x in row]) for row in all_arguments(3)])
