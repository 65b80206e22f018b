"""All errors that the package raises.

Each class sets its attributes itself: no class stands between it and its one base.
"""


class WrongValue(ValueError):
    """A value that was passed is not valid."""


class InvalidText(WrongValue):
    """What was passed is no text of the wanted form."""

    def __init__(self, given):
        self.given = given


class InvalidNumber(WrongValue):
    """What was passed is no integer of those that are allowed."""

    def __init__(self, given):
        self.given = given


class InvalidTable(WrongValue):
    """What was passed is no table."""

    def __init__(self, given):
        self.given = given


class InvalidWord(WrongValue):
    """What was passed is none of the words of the relations."""

    def __init__(self, given):
        self.given = given


class InvalidArguments(WrongValue):
    """What was passed is no tuple of values for the places of the table."""

    def __init__(self, given):
        self.given = given


class InvalidTables(WrongValue):
    """What was passed is no tuple of the wanted tables."""

    def __init__(self, given):
        self.given = given


class InvalidOrder(WrongValue):
    """What was passed is no tuple that has each value, or each place, once."""

    def __init__(self, given):
        self.given = given


class InvalidLot(WrongValue):
    """What was passed is no ascending tuple of unlike indexes of rows."""

    def __init__(self, given):
        self.given = given


class InvalidSheet(WrongValue):
    """What was passed is no sheet."""

    def __init__(self, given):
        self.given = given


class InvalidName(WrongValue):
    """What was passed is no name."""

    def __init__(self, given):
        self.given = given


class InvalidWish(WrongValue):
    """What was passed is no wish."""

    def __init__(self, given):
        self.given = given


class NotABox(WrongValue):
    """What was passed is no Box."""

    def __init__(self, given):
        self.given = given


class InvalidRows(WrongValue):
    """One of the rows of a box is none, or there are too many."""

    def __init__(self, index):
        self.index = index


class InvalidSteps(WrongValue):
    """One of the steps is none for the box."""

    def __init__(self, index):
        self.index = index


class InvalidTold(WrongValue):
    """One of the told values of a sheet is none."""

    def __init__(self, index):
        self.index = index


class InvalidExchanges(WrongValue):
    """One of the exchanges is none, or there are too many."""

    def __init__(self, index):
        self.index = index


class InvalidWishes(WrongValue):
    """One of the wishes is none."""

    def __init__(self, index):
        self.index = index


class WrongName(LookupError):
    """A name cannot be used so."""


class UnknownName(WrongName):
    """There is nothing with this name."""

    def __init__(self, given):
        self.given = given


class InUse(WrongName):
    """A wish, the one with this index, has the name."""

    def __init__(self, index):
        self.index = index


class NoAnswer(ArithmeticError):
    """All values are valid, but what was asked for cannot be."""


class TooMany(NoAnswer):
    """There are more than so many."""

    def __init__(self, given):
        self.given = given


class Broken(NoAnswer):
    """The wish with this index does not hold; what is shown tells why."""

    def __init__(self, index, shown):
        self.index = index
        self.shown = shown


class NothingToUndo(NoAnswer):
    """There is no change that could be taken back."""
