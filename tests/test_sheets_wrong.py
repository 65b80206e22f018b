"""What sheets raise for arguments that are not valid."""

import unittest

from tests.samples import BIG, BOXES, GREATEST, NO_BOXES, ODD, Calls
from threevalues import sheets
from threevalues.boxes import Box
from threevalues.errors import InvalidNumber, InvalidSheet, InvalidTold, InvalidWord, NotABox, TooMany
from threevalues.sheets import fill_that_makes_all, forced, sheet_of

PAIR = Box("max " + GREATEST, "up 120")
NO_SHEETS = (
    *ODD, "?", "??", "????", "0?", "01?0", "?" * 9, "?" * 7 + "00", "00" + "?" * 7, "0?" * 13 + "0", "?" * 27,
    "0" * 20 + "?" * 7, "?" * 7 + "2" * 20, "?" * 81, "0" * 81, "01a", "0?3", "?? ", "??\n", "\n??", "12*", "0.2",
    "\u0661\u0662?", "??\uff1f", b"1?0", ["1?0"], ["1", "?", "0"], ("1", "?", "0"), ("1?0",), (1, None, 0), 120, PAIR,
)
NO_WORDS = (
    *ODD, "set", "set 3", "set 10", "set 012", "set  0", " set 0", "set 0 ", "set 0\n", "Set 0", "part", "part 3",
    "part 01", "turn 0", "sums 0", "chain", "chain 3", "centre", "center 0", "mixed 0", "MIXED", ("set 0",), ["set 0"],
    b"set 0", ("set", 0), PAIR,
)


class WrongSheets(Calls):
    def test_alone(self):
        for x in NO_SHEETS:
            for name in ("fillings", "kept_by_some", "kept_by_each", "lone_makers"):
                function = getattr(sheets, name)
                self.raised(InvalidSheet, x, function, x)
                self.raised(InvalidSheet, x, function, sheet=x)

    def test_before_the_word(self):
        for x in NO_SHEETS:
            for word in ("set 0", "set 3", None):
                self.raised(InvalidSheet, x, forced, x, word)
                self.raised(InvalidSheet, x, forced, word=word, sheet=x)

    def test_behind_the_box(self):
        for box in (PAIR, Box(), BOXES[-1]):
            for x in NO_SHEETS:
                self.raised(InvalidSheet, x, fill_that_makes_all, box, x)
                self.raised(InvalidSheet, x, fill_that_makes_all, sheet=x, box=box)


class WrongBoxesAndWords(Calls):
    def test_boxes(self):
        for x in (*NO_BOXES, *ODD):
            for sheet in ("1?0", "1?", None):
                self.raised(NotABox, x, fill_that_makes_all, x, sheet)
                self.raised(NotABox, x, fill_that_makes_all, sheet=sheet, box=x)

    def test_words(self):
        for x in NO_WORDS:
            for sheet in ("1?0", "120", "1?2?????0"):
                self.raised(InvalidWord, x, forced, sheet, x)
                self.raised(InvalidWord, x, forced, word=x, sheet=sheet)


class WrongTold(Calls):
    def test_count(self):
        for x in (*(x for x in ODD if x != 3), 0, 4, 9, 27, -2, "1", (1,), [1], {1: 1}, 2 ** 64):
            for told in ((), (((0,), 1),), None, (None,)):
                self.raised(InvalidNumber, x, sheet_of, x, told)
                self.raised(InvalidNumber, x, sheet_of, told=told, count=x)

    def test_no_tuples(self):
        for count in (1, 2, 3):
            for x in (
                *(x for x in ODD if not isinstance(x, tuple)), [((0,), 1)], {(0,): 1}, {((0,), 1)}, PAIR, "1?0", 0,
            ):
                self.raised_at(InvalidTold, None, sheet_of, count, x)
                self.raised_at(InvalidTold, None, sheet_of, told=x, count=count)

    def test_pairs_that_are_none(self):
        wrong = (
            *ODD, (), ((0,),), ((0,), 1, 1), ((0,), 1, None), [(0,), 1], ([0], 1), ((0,), [1]), ((0,), (1,)),
            (0, 1), ("0", 1), ((0,), "1"), ((0,), None), ((0,), True), ((0,), False), ((0,), 3), ((0,), -1),
            ((0,), BIG), ((True,), 1), ((False,), 1), ((3,), 1), ((-1,), 1), ((BIG,), 1), (("0",), 1), ((None,), 1),
            ((), 1), ((0, 0), 1), ((0, 0, 0), 1), (((0,),), 1), (1, (0,)), {(0,): 1, 1: 1}, "01", PAIR,
        )
        for x in wrong:
            self.raised_at(InvalidTold, 0, sheet_of, 1, (x,))
            self.raised_at(InvalidTold, 0, sheet_of, told=(x, x), count=1)
            self.raised_at(InvalidTold, 2, sheet_of, 1, (((1,), 0), ((2,), 0), x))
            self.raised_at(InvalidTold, 1, sheet_of, 1, (((1,), 0), x, None, ((1,), 0)))

    def test_arguments_of_the_wrong_number(self):
        for count in (1, 2, 3):
            for many in range(5):
                if many != count:
                    self.raised_at(InvalidTold, 0, sheet_of, count, (((0,) * many, 1),))
                    self.raised_at(InvalidTold, 1, sheet_of, count, (((1,) * count, 1), ((0,) * many, 1)))
        for x in ((0, 3), (3, 0), (0, True), (False, 0), (0, -1), (0, "1"), [0, 1], (0, [1]), ((0, 1),)):
            self.raised_at(InvalidTold, 1, sheet_of, 2, (((1, 1), 1), (x, 1)))

    def test_arguments_twice(self):
        self.raised_at(InvalidTold, 1, sheet_of, 1, (((0,), 1), ((0,), 1)))
        self.raised_at(InvalidTold, 1, sheet_of, 1, (((0,), 1), ((0,), 2)))
        self.raised_at(InvalidTold, 2, sheet_of, 1, (((0,), 1), ((1,), 1), ((0,), 1), ((1,), 1)))
        self.raised_at(InvalidTold, 3, sheet_of, 1, (((0,), 1), ((1,), 1), ((2,), 1), ((2,), 1)))
        self.raised_at(InvalidTold, 1, sheet_of, 2, (((0, 2), 1), ((0, 2), 1)))
        self.raised_at(InvalidTold, 2, sheet_of, 2, (((0, 2), 1), ((2, 0), 1), ((2, 0), 1)))
        self.raised_at(InvalidTold, 1, sheet_of, 1, (((0,), 1), ((0,), 3), ((1,), 3)))

    def test_too_many_open_signs_come_last(self):
        self.raised(TooMany, 7, sheet_of, 2, (((0, 0), 1), ((0, 1), 1)))
        self.raised_at(InvalidTold, 1, sheet_of, 2, (((0, 0), 1), ((0, 0), 1)))
        self.raised_at(InvalidTold, 0, sheet_of, 3, (None,))


if __name__ == "__main__":
    unittest.main()
