"""What the tables of a box make when they are put into one another."""

from itertools import combinations

from threevalues.boxes import must_be_box
from threevalues.errors import InvalidNumber, InvalidSteps, InvalidTable, InvalidTables, TooMany
from threevalues.kinds import is_index, is_integer, is_of_one_place, is_table, must_be_table
from threevalues.limits import MOST_MADE
from threevalues.relations import WORDS, keeps, kept_by
from threevalues.tables import all_tables, all_ways, counting, is_onto, made_from, places, put_together, values_of

PLAIN = "012"
# More than so many tables of one place are all that there are: then nothing is left to look for.
ALL_BUT_ONE = 26


def kept(box):
    """The tuple of all words that the box keeps, in their order."""
    must_be_box(box)
    return tuple([word for word in WORDS if all([keeps(table, word) for table in box.tables])])


def makes_all(box):
    """Whether the box makes every table of every number of places."""
    return len(kept(box)) == 0


def newest(at, count):
    """The list of all tuples of so many indexes up to `at` that have `at`, each once."""
    before, upto = list(range(at)), list(range(at + 1))
    found = []
    for place in range(count):
        # Here `at` stands at this place for the first time.
        found = found + all_ways([before] * place + [[at]] + [upto] * (count - place - 1))
    return found


def grown(box, starts, most):
    """What the box makes of the starts, and how: rows of values in the order found, and steps that make them.

    The starts stand first and have no steps. It ends soon after there are more rows than `most`.
    """
    found = list(starts)
    known = {row: True for row in found}
    told = []
    parts = [(name, places(table), values_of(table)) for name, table in zip(box.names, box.tables)]
    at = 0
    while at < len(found) and len(found) <= most:
        for name, count, values in parts:
            for indexes in newest(at, count):
                row = made_from(values, [found[k] for k in indexes])
                if row not in known:
                    known[row] = True
                    found.append(row)
                    told.append((name, indexes))
        at += 1
    return found, told


def text_of(row):
    """The table with this row of values."""
    return "".join([str(x) for x in row])


def one_place_steps(box):
    """The tables of one place that the box makes, the plain one first, and the steps that make the others."""
    found, told = grown(box, [(0, 1, 2)], ALL_BUT_ONE)
    return [text_of(row) for row in found], told


def one_place(box):
    """The ascending tuple of all tables of one place that the box makes."""
    must_be_box(box)
    found, _ = one_place_steps(box)
    return tuple(sorted(found))


def steps(box, table):
    """Steps, the last of which makes the table of one place; None if the box does not make it."""
    must_be_box(box)
    if not is_of_one_place(table):
        raise InvalidTable(table)
    found, told = one_place_steps(box)
    if table not in found:
        return None
    return tuple(told[:found.index(table)])


def is_step(box, x, many):
    """Whether x is a step for the box where there are so many tables of one place before it."""
    if not isinstance(x, tuple) or len(x) != 2:
        return False
    name, indexes = x
    if not isinstance(name, str) or name not in box.names or not isinstance(indexes, tuple):
        return False
    return len(indexes) == places(box.table_of(name)) and all([is_index(k, many) for k in indexes])


def made(box, steps):
    """The tuple of the tables that the steps make, the plain one at first."""
    must_be_box(box)
    if not isinstance(steps, tuple):
        raise InvalidSteps(None)
    found = [PLAIN]
    for at, step in enumerate(steps):
        if not is_step(box, step, len(found)):
            raise InvalidSteps(at)
        name, indexes = step
        found.append(put_together(box.table_of(name), tuple([found[k] for k in indexes])))
    return tuple(found)


def few_places(box, count, most):
    """The ascending tuple of all tables of so many places, 1 or 2, that the box makes, if there are no more."""
    must_be_box(box)
    if not is_integer(count) or count not in (1, 2):
        raise InvalidNumber(count)
    if not is_index(most, MOST_MADE + 1):
        raise InvalidNumber(most)
    starts = [(0, 1, 2)]
    if count == 2:
        starts = [(0, 0, 0, 1, 1, 1, 2, 2, 2), (0, 1, 2) * 3]
    found, _ = grown(box, starts, most)
    if len(found) > most:
        raise TooMany(most)
    return tuple(sorted([text_of(row) for row in found]))


def least_lots(box):
    """All lots of indexes of rows that make all, though no lot of only some of them does."""
    must_be_box(box)
    words = [kept_by(table) for table in box.tables]
    lots = []
    for size in range(len(words) + 1):
        for lot in combinations(range(len(words)), size):
            if not has_one_of(lot, lots) and len(kept_by_lot(words, lot)) == 0:
                lots.append(lot)
    return tuple(lots)


def has_one_of(lot, lots):
    """Whether all of one of the lots is in this lot."""
    return any([all([k in lot for k in other]) for other in lots])


def kept_by_lot(words, lot):
    """The list of the words that all rows of the lot keep, where `words` tells those that each row keeps."""
    return [word for word in WORDS if all([word in words[k] for k in lot])]


def needless(box):
    """The ascending tuple of the indexes of all rows without which, one alone left out, the same words are kept."""
    must_be_box(box)
    words = [kept_by(table) for table in box.tables]
    everything = list(range(len(words)))
    same = kept_by_lot(words, everything)
    return tuple([k for k in everything if kept_by_lot(words, everything[:k] + everything[k + 1:]) == same])


def helps(box, table):
    """The tuple of the words that the box keeps, and the table does not."""
    must_be_box(box)
    must_be_table(table)
    return tuple([word for word in kept(box) if not keeps(table, word)])


def rank(box):
    """How many of the words the box does not keep."""
    return len(WORDS) - len(kept(box))


def best_of(box, tables):
    """The index of the first of the tables with which, beside those of the box, the fewest words are kept."""
    must_be_box(box)
    if not isinstance(tables, tuple) or len(tables) == 0 or not all([is_table(x) for x in tables]):
        raise InvalidTables(tables)
    words = kept(box)
    left = [len([word for word in words if keeps(table, word)]) for table in tables]
    return left.index(min(left))


def unlike(one, other):
    """The first word that just one of both keeps, or the least table of one place that just one makes, or None."""
    must_be_box(one)
    must_be_box(other)
    words = kept(one), kept(other)
    for word in WORDS:
        if (word in words[0]) != (word in words[1]):
            return word
    found = one_place(one), one_place(other)
    for table in all_tables():
        if (table in found[0]) != (table in found[1]):
            return table
    return None


def common(one, other):
    """The ascending tuple of all tables of one place that both make."""
    must_be_box(one)
    must_be_box(other)
    found = one_place(other)
    return tuple([table for table in one_place(one) if table in found])


def brings(box, row):
    """The ascending tuple of all tables of one place that the box makes with one row more, and not without."""
    must_be_box(box)
    more = one_place(box.plus(row))
    found = one_place(box)
    return tuple([table for table in more if table not in found])


def onto_names(box):
    """The tuple of the names of all tables that are onto and have two places or more that count."""
    must_be_box(box)
    return tuple([
        name for name, table in zip(box.names, box.tables) if is_onto(table) and len(counting(table)) > 1
    ])
