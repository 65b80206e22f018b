"""Desks: boxes under names, and wishes about them that always hold."""

from threevalues.boxes import LETTERS, must_be_box
from threevalues.errors import (
    Broken, InUse, InvalidName, InvalidNumber, InvalidWish, NothingToUndo, UnknownName,
)
from threevalues.kinds import is_index
from threevalues.mends import fault, is_wish

MOST_NAME_LETTERS = 8


def is_name(x):
    """Whether x is a name of a desk."""
    return isinstance(x, str) and 1 <= len(x) <= MOST_NAME_LETTERS and all([sign in LETTERS for sign in x])


def is_wish_of_desk(x):
    """Whether x is a wish of a desk, whatever stands in the places of its names."""
    if not isinstance(x, tuple) or len(x) not in (2, 3):
        return False
    if len(x) == 2:
        return is_wish(x[1])
    return isinstance(x[0], str) and x[0] == "alike"


def names_in(wish):
    """The tuple of the names in the wish of a desk."""
    return wish[1:] if len(wish) == 3 else wish[:1]


def fault_among(by_name, wish):
    """None if the wish holds for the boxes with these names, otherwise what shows that it does not."""
    if len(wish) == 3:
        return fault(by_name[wish[1]], ("alike", by_name[wish[2]]))
    return fault(by_name[wish[0]], wish[1])


class Moment:
    """What a desk holds at one time, and the moment before; it never changes."""

    def __init__(self, by_name, wished, before):
        self.by_name = by_name
        self.wished = wished
        self.before = before
        self.number = 0 if before is None else before.number + 1


class Begun:
    """The moment at which the rows of a trial began, and those of the same trial around them."""

    def __init__(self, moment, outer):
        self.moment = moment
        self.outer = outer


class Trial:
    """For a `with` statement: if its rows end with an exception, the desk is as it was when they began."""

    def __init__(self, desk):
        self._desk = desk
        self._begun = None

    def __enter__(self):
        # The same trial may be entered again before its rows end.
        self._begun = Begun(self._desk._now, self._begun)
        return self._desk

    def __exit__(self, kind, value, trace):
        desk = self._desk
        if kind is not None:
            desk._now = self._begun.moment
        self._begun = self._begun.outer


class Desk:
    """Boxes under names, and wishes that hold after each change; at first none of both."""

    def __init__(self):
        # A change makes another moment, so going back is taking an earlier one.
        self._now = Moment({}, (), None)

    @property
    def names(self):
        """The ascending tuple of the names."""
        return tuple(sorted(self._now.by_name))

    @property
    def wishes(self):
        """The tuple of the wishes, in their order."""
        return self._now.wished

    @property
    def changes(self):
        """How many changes can be taken back."""
        return self._now.number

    def put(self, name, box):
        """Puts the box under the name, also in the place of another one."""
        if not is_name(name):
            raise InvalidName(name)
        must_be_box(box)
        by_name = dict(self._now.by_name)
        by_name[name] = box
        for at, wish in enumerate(self._now.wished):
            shown = fault_among(by_name, wish)
            if shown is not None:
                raise Broken(at, shown)
        self._change(by_name, self._now.wished)

    def named(self, name):
        """The box with this name."""
        self._must_have(name)
        return self._now.by_name[name]

    def drop(self, name):
        """Takes a name away that no wish has."""
        self._must_have(name)
        for at, wish in enumerate(self._now.wished):
            if name in names_in(wish):
                raise InUse(at)
        by_name = {other: box for other, box in self._now.by_name.items() if other != name}
        self._change(by_name, self._now.wished)

    def wish(self, wish):
        """Makes one wish more, behind the others."""
        if not is_wish_of_desk(wish):
            raise InvalidWish(wish)
        for name in names_in(wish):
            self._must_have(name)
        # The wishes before it hold, as the boxes are what they were.
        shown = fault_among(self._now.by_name, wish)
        if shown is not None:
            raise Broken(len(self._now.wished), shown)
        self._change(self._now.by_name, self._now.wished + (wish,))

    def lift(self, index):
        """Takes the wish with this index away."""
        wished = self._now.wished
        if not is_index(index, len(wished)):
            raise InvalidNumber(index)
        self._change(self._now.by_name, wished[:index] + wished[index + 1:])

    def undo(self):
        """Takes back the last change that has not been taken back."""
        if self._now.before is None:
            raise NothingToUndo()
        self._now = self._now.before

    def trial(self):
        """For a `with` statement whose rows leave the desk as it was if they end with an exception."""
        return Trial(self)

    def tried(self, action):
        """What the function returns that is called with the desk within a trial."""
        with self.trial() as desk:
            return action(desk)

    def _must_have(self, name):
        if not isinstance(name, str) or name not in self._now.by_name:
            raise UnknownName(name)

    def _change(self, by_name, wished):
        self._now = Moment(by_name, wished, self._now)

    def __len__(self):
        return len(self._now.by_name)

    def __bool__(self):
        # A desk without names is none the less a desk.
        return True
