"""Wishes about boxes, and the least lots of exchanges of rows that make them hold."""

from itertools import combinations

from threevalues.boxes import Box, must_be_box
from threevalues.errors import InvalidExchanges, InvalidRows, InvalidWish, InvalidWishes
from threevalues.kinds import is_index, is_of_one_place
from threevalues.limits import MOST_EXCHANGES
from threevalues.making import has_one_of, kept, one_place, unlike
from threevalues.relations import is_word, keeps, leads_out


def is_wish(x):
    """Whether x is a wish."""
    if not isinstance(x, tuple) or len(x) == 0 or not isinstance(x[0], str):
        return False
    if x[0] == "all":
        return len(x) == 1
    if len(x) != 2:
        return False
    if x[0] in ("keeps", "leaves"):
        return is_word(x[1])
    if x[0] == "makes":
        return is_of_one_place(x[1])
    return x[0] in ("unlike", "alike") and isinstance(x[1], Box)


def first_leading_out(box, word):
    """The pair of the name of the first row whose table does not keep the relation, and rows; or None."""
    for name, table in zip(box.names, box.tables):
        if not keeps(table, word):
            return name, leads_out(table, word)
    return None


def fault(box, wish):
    """None if the wish holds for the box, otherwise what shows that it does not."""
    must_be_box(box)
    if not is_wish(wish):
        raise InvalidWish(wish)
    if wish[0] == "all":
        words = kept(box)
        return words if len(words) > 0 else None
    told = wish[1]
    if wish[0] == "keeps":
        return first_leading_out(box, told)
    if wish[0] == "leaves":
        return box.names if first_leading_out(box, told) is None else None
    if wish[0] == "makes":
        tables = one_place(box)
        return tables if told not in tables else None
    difference = unlike(box, told)
    if wish[0] == "alike":
        return difference
    return "alike" if difference is None else None


def is_exchange(x, count):
    """Whether x is an exchange for a box of so many rows."""
    return isinstance(x, tuple) and len(x) == 2 and is_index(x[0], count) and isinstance(x[1], str)


def must_be_exchanges(x, count):
    """Raises InvalidExchanges if x is no tuple of exchanges, and not too many, for a box of so many rows."""
    if not isinstance(x, tuple) or len(x) > MOST_EXCHANGES:
        raise InvalidExchanges(None)
    for at, exchange in enumerate(x):
        if not is_exchange(exchange, count):
            raise InvalidExchanges(at)


def must_be_wishes(x):
    """Raises InvalidWishes if x is no tuple of wishes."""
    if not isinstance(x, tuple):
        raise InvalidWishes(None)
    for at, wish in enumerate(x):
        if not is_wish(wish):
            raise InvalidWishes(at)


def exchanged(box, exchanges):
    """The box with all the exchanges made at once; None if two are of one row, or the rows make no box."""
    indexes = [exchange[0] for exchange in exchanges]
    if len(set(indexes)) < len(indexes):
        return None
    rows = list(box.rows)
    for index, row in exchanges:
        rows[index] = row
    try:
        return Box(*rows)
    except InvalidRows:
        return None


def do_mend(box, exchanges, wishes):
    """Whether the box, with all the exchanges made, is one for which all the wishes hold."""
    other = exchanged(box, exchanges)
    if other is None:
        return False
    for wish in wishes:
        if fault(other, wish) is not None:
            return False
    return True


def mending(box, exchanges, wishes):
    """All least lots of indexes of exchanges with which all wishes hold, by length, then as tuples."""
    must_be_box(box)
    must_be_exchanges(exchanges, len(box.rows))
    must_be_wishes(wishes)
    lots = []
    for size in range(len(exchanges) + 1):
        for lot in combinations(range(len(exchanges)), size):
            if not has_one_of(lot, lots) and do_mend(box, [exchanges[k] for k in lot], wishes):
                lots.append(lot)
    return tuple(lots)
