"""Sheets: tables of which some entries are open."""

from threevalues.boxes import must_be_box
from threevalues.errors import InvalidNumber, InvalidSheet, InvalidTold, TooMany
from threevalues.kinds import LENGTHS, are_arguments, is_integer, is_value
from threevalues.limits import MOST_OPEN, MOST_PLACES
from threevalues.making import kept
from threevalues.relations import WORDS, keeps, must_be_word
from threevalues.tables import all_arguments, all_ways

OPEN = "?"


def is_sheet(x):
    """Whether x is a sheet."""
    if not isinstance(x, str) or len(x) not in LENGTHS:
        return False
    return all([sign in "012?" for sign in x]) and x.count(OPEN) <= MOST_OPEN


def must_be_sheet(x):
    """Raises InvalidSheet if x is no sheet."""
    if not is_sheet(x):
        raise InvalidSheet(x)


def filled(sheet):
    """The ascending list of all tables that fill the sheet."""
    lots = ["012" if sign == OPEN else sign for sign in sheet]
    return ["".join(signs) for signs in all_ways(lots)]


def keeps_one_of(table, words):
    """Whether the table keeps one of the relations with these words."""
    # Up to 729 tables are asked this: the first word that is kept is enough.
    for word in words:
        if keeps(table, word):
            return True
    return False


def one_keeps(tables, word):
    """Whether one of the tables keeps the relation."""
    for table in tables:
        if keeps(table, word):
            return True
    return False


def one_leads_out(tables, word):
    """Whether one of the tables does not keep the relation."""
    for table in tables:
        if not keeps(table, word):
            return True
    return False


def fillings(sheet):
    """How many tables fill the sheet."""
    must_be_sheet(sheet)
    return len(filled(sheet))


def kept_by_some(sheet):
    """The tuple of the words that some of the tables that fill the sheet keep, in their order."""
    must_be_sheet(sheet)
    tables = filled(sheet)
    return tuple([word for word in WORDS if one_keeps(tables, word)])


def kept_by_each(sheet):
    """The tuple of the words that each of the tables that fill the sheet keeps, in their order."""
    must_be_sheet(sheet)
    tables = filled(sheet)
    return tuple([word for word in WORDS if not one_leads_out(tables, word)])


def fill_that_makes_all(box, sheet):
    """The least table that fills the sheet and with which, beside those of the box, no word is kept; or None."""
    must_be_box(box)
    must_be_sheet(sheet)
    words = kept(box)
    for table in filled(sheet):
        if not keeps_one_of(table, words):
            return table
    return None


def lone_makers(sheet):
    """The ascending tuple of all tables that fill the sheet and make all by themselves."""
    must_be_sheet(sheet)
    return tuple([table for table in filled(sheet) if not keeps_one_of(table, WORDS)])


def is_told_value(x, count):
    """Whether x is a pair of arguments for so many places and a value."""
    return isinstance(x, tuple) and len(x) == 2 and are_arguments(x[0], count) and is_value(x[1])


def told_values(count, told):
    """A dict of the told values, by their arguments; raises InvalidTold where one cannot be told."""
    if not isinstance(told, tuple):
        raise InvalidTold(None)
    values = {}
    for at, pair in enumerate(told):
        if not is_told_value(pair, count) or pair[0] in values:
            raise InvalidTold(at)
        values[pair[0]] = pair[1]
    return values


def sheet_of(count, told):
    """The sheet of so many places that has just the told values."""
    if not is_integer(count) or not 1 <= count <= MOST_PLACES:
        raise InvalidNumber(count)
    values = told_values(count, told)
    signs = [str(values[row]) if row in values else OPEN for row in all_arguments(count)]
    many = signs.count(OPEN)
    if many > MOST_OPEN:
        raise TooMany(many)
    return "".join(signs)


def forced(sheet, word):
    """The sheet with each open sign replaced that all tables that fill it and keep the relation agree on; or None."""
    must_be_sheet(sheet)
    must_be_word(word)
    tables = [table for table in filled(sheet) if keeps(table, word)]
    if len(tables) == 0:
        return None
    return "".join([signs[0] if len(set(signs)) == 1 else OPEN for signs in zip(*tables)])
