"""Shelves: boxes that are led live, with undo."""

from threevalues.boxes import Box
from threevalues.errors import NothingToUndo
from threevalues.making import kept, makes_all


def kept_by_one_alone(one, other):
    """The tuple of the words that the one box keeps, and the other does not, in their order."""
    words = kept(other)
    return tuple([word for word in kept(one) if word not in words])


class Shelf:
    """A box that changes row by row, at first without rows."""

    def __init__(self):
        self._box = Box()
        # The boxes that the undoing goes back to, the last one first.
        self._before = []

    @property
    def box(self):
        """The box as it is now."""
        return self._box

    @property
    def kept(self):
        """The tuple of the words that the box keeps, in their order."""
        return kept(self._box)

    @property
    def complete(self):
        """Whether the box makes all."""
        return makes_all(self._box)

    @property
    def changes(self):
        """How many changes can be taken back."""
        return len(self._before)

    def put(self, row):
        """Puts one row more; returns the tuple of the words that the box no longer keeps by it."""
        words = self.tried(row)
        self._change(self._box.plus(row))
        return words

    def take(self, name):
        """Takes the row with this name away; returns the tuple of the words that the box keeps again."""
        fewer = self._box.without(name)
        words = kept_by_one_alone(fewer, self._box)
        self._change(fewer)
        return words

    def tried(self, row):
        """The tuple of the words that putting the row would take away; nothing is put."""
        return kept_by_one_alone(self._box, self._box.plus(row))

    def undo(self):
        """Takes back the last change that has not been taken back."""
        if len(self._before) == 0:
            raise NothingToUndo()
        self._box = self._before.pop()

    def _change(self, box):
        self._before.append(self._box)
        self._box = box
