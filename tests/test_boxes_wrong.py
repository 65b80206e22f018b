"""What a Box raises for arguments that are not valid."""

import unittest

from tests.samples import BIG, GREATEST, ODD, Calls
from threevalues.boxes import Box
from threevalues.errors import InvalidLot, InvalidNumber, InvalidOrder, InvalidRows, InvalidText, UnknownName

MAX = "max " + GREATEST
NO_ROWS = (
    *ODD, "up", "up ", " 120", "120", "up  120", " up 120", "up 120 ", "up 120\n", "\nup 120", "up\n120", "up\t120",
    "up120", "abcde 120", "Up 120", "UP 120", "u1 120", "u- 120", "u_ 120", "up 12", "up 1200", "up 123", "up 12a",
    "up 01201201", "up " + "0" * 10, "up " + "0" * 26, "up " + "0" * 28, "up " + "0" * 81, "up 120 201", "a b 120",
    "\u00e4 120", "up \u0661\u0662\u0660", b"up 120", ("up", "120"), ["up", "120"], ("up 120",), ["up 120"],
    {"up": "120"}, Box("up 120"),
)
FULL = Box("a 012", "b 012", "c 012", "d 012", "e 012", "f 012")


class WrongRows(Calls):
    def test_rows_that_are_none(self):
        for x in NO_ROWS:
            self.raised_at(InvalidRows, 0, Box, x)
            self.raised_at(InvalidRows, 0, Box, x, "up 120")
            self.raised_at(InvalidRows, 1, Box, MAX, x)
            self.raised_at(InvalidRows, 5, Box, *FULL.rows[:5], x)
            self.raised_at(InvalidRows, 1, Box, MAX, x, x)

    def test_names_that_are_there_before(self):
        self.raised_at(InvalidRows, 1, Box, "up 120", "up 120")
        self.raised_at(InvalidRows, 1, Box, "up 120", "up 201")
        self.raised_at(InvalidRows, 2, Box, "up 120", MAX, "up 000")
        self.raised_at(InvalidRows, 3, Box, "a 120", "b 120", "c 000", "b 000", "a 000")
        self.raised_at(InvalidRows, 1, Box, "a 120", "a 120", "b")
        self.raised_at(InvalidRows, 1, Box, "a 120", "b", "a 120")

    def test_seven_rows(self):
        self.raised_at(InvalidRows, None, Box, *FULL.rows, "g 012")
        self.raised_at(InvalidRows, None, Box, *FULL.rows, "a 012")
        self.raised_at(InvalidRows, None, Box, *[None] * 7)
        self.raised_at(InvalidRows, None, Box, *[None] * 60)
        self.raised_at(InvalidRows, 0, Box, *[None] * 6)


class WrongTexts(Calls):
    def test_read(self):
        for x in (
            *(x for x in NO_ROWS if x != ""), "\n", "up 120\n", "\nup 120", "up 120\n\nmax " + GREATEST,
            "up 120\r\nmax " + GREATEST, "up 120\nup 201", "up 120, max " + GREATEST, "up 120\n max 000",
            "up 120\nmax  000", "up 120\nabcde 000", "\n".join([*FULL.rows, "g 012"]), FULL.rows, " ",
        ):
            self.raised(InvalidText, x, Box.read, x)
            self.raised(InvalidText, x, Box.read, text=x)


class WrongMethods(Calls):
    def test_names(self):
        for box in (FULL.without("a"), Box(MAX, "up 120"), Box()):
            for x in (
                *ODD, "ma", "maxi", "MAX", "max ", "up 120", MAX, GREATEST, "120", "", 0, 1, -1, ("max",), ["max"],
                b"max", box,
            ):
                for method in (box.table_of, box.without):
                    self.raised(UnknownName, x, method, x)
                    self.raised(UnknownName, x, method, name=x)

    def test_indexes(self):
        for box in (FULL, Box(MAX, "up 120"), Box("up 120"), Box()):
            for x in (*(x for x in ODD if x != 3), -1 - len(box), len(box), len(box) + 1, "0", (0,), [0]):
                for row in ("q 111", "q", None):
                    self.raised(InvalidNumber, x, box.with_row, x, row)
                    self.raised(InvalidNumber, x, box.with_row, row=row, index=x)

    def test_with_row(self):
        box = Box(MAX, "up 120", "low 010")
        for x in NO_ROWS:
            for at in range(3):
                self.raised_at(InvalidRows, at, box.with_row, at, x)
                self.raised_at(InvalidRows, at, box.with_row, row=x, index=at)
        self.raised_at(InvalidRows, 1, box.with_row, 1, "max 000")
        # Here the name that is there before is that of the new row.
        self.raised_at(InvalidRows, 2, box.with_row, 0, "low 000")

    def test_plus(self):
        box = Box(MAX, "up 120")
        for x in (*NO_ROWS, "up 120", "up 000", MAX):
            self.raised_at(InvalidRows, 2, box.plus, x)
            self.raised_at(InvalidRows, 2, box.plus, row=x)
        for x in (*NO_ROWS, "g 012", "a 012"):
            self.raised_at(InvalidRows, None, FULL.plus, x)
        self.raised_at(InvalidRows, 0, Box().plus, "up")

    def test_lots(self):
        box = Box(MAX, "up 120", "low 010")
        for x in (
            *ODD, (3,), (-1,), (0, 3), (-1, 0), (1, 0), (2, 1, 0), (0, 2, 1), (0, 0), (1, 1), (0, 1, 1), (0, 1, 2, 2),
            (0, 1, 2, 3), (True,), (False,), (False, 1), (0, True), [0], [], [0, 1], "0", "", 0, 1, {0}, {0: 1},
            range(2), ("max",), (None,), (0, None), (0, "1"), (BIG,), ((0,),),
        ):
            self.raised(InvalidLot, x, box.part, x)
            self.raised(InvalidLot, x, box.part, lot=x)
        for x in ((0,), (-1,), [], None):
            self.raised(InvalidLot, x, Box().part, x)

    def test_orders(self):
        for box in (FULL, Box("up 120"), Box()):
            for x in (
                *ODD, (), (0,), (0, 1), (0, 1, 2, 3), (0, 0, 1), (1, 2, 3), (-1, 0, 1), (0, True, 2), (False, 1, 2),
                [0, 1, 2], "012", ("0", "1", "2"), (0, 1, BIG), {0, 1, 2}, range(3),
            ):
                self.raised(InvalidOrder, x, box.renamed, x)
                self.raised(InvalidOrder, x, box.renamed, order=x)

    def test_a_failed_call_leaves_the_box_as_it_was(self):
        box = Box(MAX, "up 120")
        for method, passed in (
            (box.with_row, (0, "up 000")), (box.with_row, (2, "a 000")), (box.plus, ("up 000",)), (box.part, ((2,),)),
            (box.without, ("low",)), (box.renamed, ((0,),)), (box.table_of, (0,)),
        ):
            with self.assertRaises((ValueError, LookupError)):
                method(*passed)
            self.assertEqual(box.rows, (MAX, "up 120"))


if __name__ == "__main__":
    unittest.main()
