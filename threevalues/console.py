"""The console: a box that is asked by lines of text."""

from threevalues.boxes import must_be_box
from threevalues.errors import InvalidText
from threevalues.kinds import is_of_one_place
from threevalues.making import kept, least_lots, makes_all, one_place, rank
from threevalues.mends import fault
from threevalues.relations import is_word
from threevalues.tables import places, value


def yes_or_no(whether):
    """The word for it."""
    return "yes" if whether else "no"


def say_all(box):
    """Whether the box makes all."""
    return yes_or_no(makes_all(box))


def say_kept(box):
    """The words that the box keeps."""
    words = kept(box)
    return ", ".join(words) if len(words) > 0 else "none"


def say_made(box):
    """How many tables of one place the box makes."""
    return str(len(one_place(box)))


def say_rank(box):
    """How many of the words the box does not keep."""
    return str(rank(box))


def say_lots(box):
    """The names of the rows of each least lot that makes all."""
    lots = ["+".join(box.part(lot).names) for lot in least_lots(box)]
    return " ".join(lots) if len(lots) > 0 else "none"


def say_row(box, told):
    """The row with the told index; None if there is none."""
    # Written out again, an index has no needless zeros.
    indexes = [str(k) for k in range(len(box.rows))]
    return box.rows[indexes.index(told)] if told in indexes else None


def say_keeps(box, told):
    """Whether the box keeps the relation, or the first row that does not; None if it is no word."""
    if not is_word(told):
        return None
    shown = fault(box, ("keeps", told))
    return "yes" if shown is None else shown[0]


def say_makes(box, told):
    """Whether the box makes the table of one place; None if it is none."""
    if not is_of_one_place(told):
        return None
    return yes_or_no(told in one_place(box))


def say_of(box, told):
    """The value of the table with the told name at the told digits; None if they are none for it."""
    name, *digits = told.split(" ")
    if name not in box.names:
        return None
    table = box.table_of(name)
    if len(digits) != places(table) or not all([digit in ("0", "1", "2") for digit in digits]):
        return None
    return str(value(table, tuple([int(digit) for digit in digits])))


ALONE = {"all": say_all, "kept": say_kept, "made": say_made, "rank": say_rank, "lots": say_lots}
FOLLOWED = {"row": say_row, "keeps": say_keeps, "makes": say_makes, "of": say_of}


def answer(box, line):
    """What the line is answered; None if it is no line of the console."""
    if line in ALONE:
        action = ALONE[line]
        return action(box)
    word, _, told = line.partition(" ")
    if word not in FOLLOWED:
        return None
    action = FOLLOWED[word]
    return action(box, told)


class Console:
    """A box that is asked."""

    def __init__(self, box):
        must_be_box(box)
        self._box = box

    @property
    def box(self):
        """The box."""
        return self._box

    def say(self, line):
        """The answer to the line."""
        told = answer(self._box, line) if isinstance(line, str) else None
        if told is None:
            raise InvalidText(line)
        return told
