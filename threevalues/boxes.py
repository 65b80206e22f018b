"""Boxes: rows of at most six named tables."""

from threevalues.errors import InvalidLot, InvalidNumber, InvalidRows, InvalidText, NotABox, UnknownName
from threevalues.kinds import is_index, is_table, must_be_order
from threevalues.limits import MOST_LETTERS, MOST_TABLES
from threevalues.tables import renamed

LETTERS = "abcdefghijklmnopqrstuvwxyz"


def is_row(x):
    """Whether x is a name and a table, a single space between them."""
    if not isinstance(x, str):
        return False
    name, _, table = x.partition(" ")
    return 1 <= len(name) <= MOST_LETTERS and all([sign in LETTERS for sign in name]) and is_table(table)


def name_of(row):
    """The name in the row."""
    return row.partition(" ")[0]


def must_be_rows(rows):
    """Raises InvalidRows if there are too many rows, or with the index of the first that cannot stand there."""
    if len(rows) > MOST_TABLES:
        raise InvalidRows(None)
    names = []
    for at, row in enumerate(rows):
        if not is_row(row) or name_of(row) in names:
            raise InvalidRows(at)
        names.append(name_of(row))


def is_lot(x, count):
    """Whether x is an ascending tuple of unlike indexes of so many rows."""
    if not isinstance(x, tuple) or not all([is_index(k, count) for k in x]):
        return False
    return all([low < high for low, high in zip(x, x[1:])])


class Box:
    """At most six rows, each with a name and a table; it never changes."""

    def __init__(self, *rows):
        must_be_rows(rows)
        self._rows = rows

    @classmethod
    def read(cls, text):
        """The box with this text."""
        if not isinstance(text, str):
            raise InvalidText(text)
        rows = text.split("\n") if text != "" else []
        try:
            return cls(*rows)
        except InvalidRows:
            raise InvalidText(text) from None

    @property
    def rows(self):
        """The tuple of the rows."""
        return self._rows

    @property
    def text(self):
        """The rows, joined by single newlines."""
        return "\n".join(self._rows)

    @property
    def names(self):
        """The tuple of the names, in the order of the rows."""
        return tuple([name_of(row) for row in self._rows])

    @property
    def tables(self):
        """The tuple of the tables, in the order of the rows."""
        return tuple([row.partition(" ")[2] for row in self._rows])

    def table_of(self, name):
        """The table with this name."""
        return self.tables[self._index_of(name)]

    def with_row(self, index, row):
        """The box with this row in the place of the one with this index."""
        if not is_index(index, len(self._rows)):
            raise InvalidNumber(index)
        rows = list(self._rows)
        rows[index] = row
        return Box(*rows)

    def plus(self, row):
        """The box with one row more, the last."""
        return Box(*self._rows, row)

    def part(self, lot):
        """The box with just the rows with these indexes."""
        if not is_lot(lot, len(self._rows)):
            raise InvalidLot(lot)
        rows = [self._rows[k] for k in lot]
        return Box(*rows)

    def without(self, name):
        """The box without the row with this name."""
        at = self._index_of(name)
        rows = self._rows[:at] + self._rows[at + 1:]
        return Box(*rows)

    def renamed(self, order):
        """The box with the values exchanged in all its tables."""
        must_be_order(order, 3)
        rows = [f"{name} {renamed(table, order)}" for name, table in zip(self.names, self.tables)]
        return Box(*rows)

    def _index_of(self, name):
        """The index of the row with this name."""
        if not isinstance(name, str) or name not in self.names:
            raise UnknownName(name)
        return self.names.index(name)

    def __eq__(self, other):
        return isinstance(other, Box) and self._rows == other._rows

    def __len__(self):
        return len(self._rows)

    def __bool__(self):
        # A box without rows is none the less a box.
        return True

    def __str__(self):
        return "\n".join(self._rows)

    def __repr__(self):
        return f"Box of {len(self._rows)} tables"


def must_be_box(x):
    """Raises NotABox if x is no Box."""
    if not isinstance(x, Box):
        raise NotABox(x)
