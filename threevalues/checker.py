"""The checker: it accepts a claim only with what proves it."""

from threevalues.boxes import Box
from threevalues.errors import InvalidSteps, InvalidText
from threevalues.kinds import is_table, is_value
from threevalues.making import made, onto_names
from threevalues.relations import is_word, keeps, relation
from threevalues.tables import all_tables, made_from, places, values_of


def box_of(text):
    """The box with this text; None if it is none."""
    try:
        return Box.read(text)
    except InvalidText:
        return None


def tables_of(box, certificate):
    """The tuple of the tables that the certificate makes, the plain one at first; empty if it is no steps."""
    try:
        return made(box, certificate)
    except InvalidSteps:
        return ()


def is_nothing(x):
    """Whether x is the empty tuple."""
    return isinstance(x, tuple) and len(x) == 0


def is_row_of(word, x):
    """Whether x is a tuple of the relation."""
    # Without the look at each value, (True,) would be found where (1,) is.
    return isinstance(x, tuple) and all([is_value(y) for y in x]) and x in relation(word)


def lead_out(table, word, rows):
    """Whether the rows are of the relation, one for each place of the table, and lead out of it."""
    if not is_table(table) or not is_word(word) or not isinstance(rows, tuple):
        return False
    if len(rows) != places(table) or not all([is_row_of(word, row) for row in rows]):
        return False
    return made_from(values_of(table), rows) not in relation(word)


def shows_all(box, name, certificate):
    """Whether the table with this name, and the steps, show that the box makes all."""
    if not isinstance(name, str) or name not in onto_names(box):
        return False
    tables = tables_of(box, certificate)
    return all([table in tables for table in all_tables()])


def shows_kept(box, word, certificate):
    """Whether the box keeps the relation, which needs no certificate."""
    return is_nothing(certificate) and is_word(word) and all([keeps(table, word) for table in box.tables])


def shows_made(box, table, certificate):
    """Whether the table is among those that the steps make."""
    return isinstance(table, str) and table in tables_of(box, certificate)


def accepts(claim, certificate):
    """Whether `claim` is a claim, and `certificate` one for it, whatever both are."""
    if not isinstance(claim, tuple) or len(claim) not in (3, 4) or not isinstance(claim[0], str):
        return False
    if len(claim) == 4:
        return claim[0] == "out" and is_nothing(certificate) and lead_out(claim[1], claim[2], claim[3])
    kind, text, told = claim
    box = box_of(text)
    if box is None:
        return False
    if kind == "all":
        return shows_all(box, told, certificate)
    if kind == "kept":
        return shows_kept(box, told, certificate)
    return kind == "made" and shows_made(box, told, certificate)
