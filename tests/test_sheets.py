"""What sheets tell for valid arguments."""

import functools
import itertools
import random
import unittest

from tests.samples import BOXES, GREATEST, LEAST, RULED_2, RULED_3, TABLES, UP, Calls, arguments_of, looked_up
from threevalues import sheets
from threevalues.boxes import Box
from threevalues.errors import TooMany
from threevalues.making import kept, makes_all
from threevalues.relations import WORDS, keeps
from threevalues.sheets import (
    fill_that_makes_all, fillings, forced, kept_by_each, kept_by_some, lone_makers, sheet_of,
)

PARAMETERS = {
    "fillings": ("sheet",), "kept_by_some": ("sheet",), "kept_by_each": ("sheet",),
    "fill_that_makes_all": ("box", "sheet"), "lone_makers": ("sheet",), "sheet_of": ("count", "told"),
    "forced": ("sheet", "word"),
}
MAX = "max " + GREATEST
# Each of these has six rows; with what is put beside them the first and the last one make all.
SIX = (
    Box("a 120", "b 021", "c 000", "d 201", "e 102", "f 012012012"),
    Box("a 000", "b 111", "c 222", "d " + LEAST, "e 012", "f " + GREATEST),
    Box("a 120", "b 201", "c 012", "d 021", "e 102", "f 210"),
)


def opened(table, places):
    """The table with these of its signs open."""
    return "".join("?" if at in places else sign for at, sign in enumerate(table))


def drawn(tables, sizes, seed):
    """Each table with so many open signs, for each of the sizes that it has room for."""
    draw = random.Random(seed)
    return [
        opened(table, draw.sample(range(len(table)), size)) for table in tables for size in sizes
        if size <= len(table)
    ]


@functools.cache
def words_of(table):
    return tuple(word for word in WORDS if keeps(table, word))


def filled(sheet):
    """The ascending list of all tables that fill a sheet, told without the program."""
    found = [""]
    for sign in sheet:
        found = [text + each for text in found for each in ("012" if sign == "?" else sign)]
    return found


SHEETS_1 = tuple("".join(signs) for signs in itertools.product("012?", repeat=3))
SHEETS_2 = (
    *drawn(RULED_2, (1, 2, 3), 1), *drawn(RULED_2[::3], (4, 5), 2), *drawn(RULED_2[::9], (6,), 3),
    "??????012", "012??????", "???000???", "120?2?0?0", "1202?0000", "000000012", "?12112222",
)
SHEETS_3 = (
    *drawn(RULED_3, (1, 2), 4), *drawn(RULED_3[::6], (3, 4), 5), *drawn((RULED_3[10],), (5, 6), 6), RULED_3[10],
    "?" + "0" * 26, "0" * 26 + "?", "120" * 8 + "???",
)
SHEETS = (*SHEETS_1, *SHEETS_2, *SHEETS_3)


class Interface(Calls):
    def test_names_and_parameters(self):
        for name, told in PARAMETERS.items():
            self.parameters(getattr(sheets, name), told)
            self.assertEqual(getattr(sheets, name).__module__, "threevalues.sheets")

    def test_by_position_and_by_name(self):
        self.assertEqual(self.all_orders(fillings, {"sheet": "1?0"}), 3)
        self.assertEqual(self.all_orders(kept_by_some, {"sheet": UP}), ("turn", "sums", "mixed"))
        self.assertEqual(self.all_orders(kept_by_each, {"sheet": "???"}), ("mixed",))
        self.assertEqual(self.all_orders(fill_that_makes_all, {"box": Box(MAX), "sheet": "1?0"}), "120")
        self.assertEqual(self.all_orders(lone_makers, {"sheet": "1?0"}), ())
        self.assertEqual(self.all_orders(sheet_of, {"count": 1, "told": (((0,), 2),)}), "2??")
        self.assertEqual(self.all_orders(forced, {"sheet": "12?", "word": "turn"}), "120")


class Examples(unittest.TestCase):
    def test_first(self):
        got = [
            fillings("1?0"), kept_by_some("1?0"), kept_by_each("???"), forced("0?2", "chain 1"), forced("12?", "turn"),
            forced("1?0", "set 1"), forced("10?", "set 1"),
        ]
        some = (
            "set 1", "set 01", "part 0", "part 2", "turn", "sums", "chain 0", "centre 0", "centre 1", "mixed",
        )
        self.assertEqual(got, [3, some, ("mixed",), "0?2", "120", "110", None])

    def test_second(self):
        got = [
            fill_that_makes_all(Box(MAX), "1?0"), fill_that_makes_all(Box("up 120"), "0?2"), fillings("000000000"),
            sheet_of(1, (((2,), 0), ((0,), 1))), sheet_of(2, (((0, 0), 1), ((2, 2), 0), ((1, 0), 2))),
        ]
        self.assertEqual(got, ["120", None, 1, "1?0", "1??2????0"])

    def test_third(self):
        self.assertEqual([lone_makers("1202?0000"), lone_makers("1?0")], [("120200000", "120220000"), ()])


class Fillings(unittest.TestCase):
    def test_how_many(self):
        for sheet in SHEETS:
            got = fillings(sheet)
            self.assertIs(type(got), int)
            self.assertEqual(got, len(filled(sheet)))

    def test_none_to_six_open_signs(self):
        for size, many in enumerate((1, 3, 9, 27)):
            self.assertEqual(fillings("?" * size + "0" * (3 - size)), many)
        for size, many in enumerate((1, 3, 9, 27, 81, 243, 729)):
            self.assertEqual(fillings("0" * (9 - size) + "?" * size), many)
            self.assertEqual(fillings("1" * (27 - size) + "?" * size), many)
            self.assertEqual(fillings("?" * size + "2" * (27 - size)), many)

    def test_kept_by_some_and_each(self):
        for sheet in SHEETS:
            each = [words_of(table) for table in filled(sheet)]
            got = kept_by_some(sheet), kept_by_each(sheet)
            self.assertEqual([type(x) for x in got], [tuple, tuple])
            self.assertEqual(got[0], tuple(word for word in WORDS if any(word in words for words in each)), sheet)
            self.assertEqual(got[1], tuple(word for word in WORDS if all(word in words for words in each)), sheet)

    def test_a_sheet_without_open_signs(self):
        for table in TABLES:
            self.assertEqual(fillings(table), 1)
            self.assertEqual(kept_by_some(table), words_of(table))
            self.assertEqual(kept_by_each(table), words_of(table))
            self.assertEqual(lone_makers(table), () if words_of(table) else (table,))
            for word in WORDS:
                self.assertEqual(forced(table, word), table if word in words_of(table) else None)


class MakingAll(unittest.TestCase):
    def test_lone_makers(self):
        some = 0
        for sheet in SHEETS:
            got = lone_makers(sheet)
            self.assertIs(type(got), tuple)
            self.assertEqual(got, tuple(table for table in filled(sheet) if not words_of(table)), sheet)
            self.assertTrue(all(makes_all(Box("a " + table)) for table in got[:3]))
            some += len(got) > 1
        self.assertGreater(some, 3)

    def test_fill_that_makes_all(self):
        found = set()
        for box in (*BOXES, *SIX):
            words = kept(box)
            for sheet in (*SHEETS_1[::3], *SHEETS_2[::2], *SHEETS_3[::3]):
                able = [table for table in filled(sheet) if not set(words) & set(words_of(table))]
                got = fill_that_makes_all(box, sheet)
                self.assertEqual(got, able[0] if able else None, (box.rows, sheet))
                if got is not None and len(box) < 6:
                    self.assertTrue(makes_all(Box(*box.rows, "new " + got)))
                found.add((len(box) == 6, got is None))
        self.assertEqual(len(found), 4)

    def test_beside_six_rows(self):
        self.assertEqual(fill_that_makes_all(SIX[0], "?1211222?"), "012112220")
        self.assertEqual(fill_that_makes_all(SIX[1], "?2?"), "020")
        self.assertIsNone(fill_that_makes_all(SIX[2], "???"))
        self.assertEqual(fill_that_makes_all(SIX[2], GREATEST), GREATEST)

    def test_beside_a_box_without_rows(self):
        self.assertIsNone(fill_that_makes_all(Box(), "???"))
        self.assertEqual(fill_that_makes_all(Box(), "1202?0000"), "120200000")
        self.assertEqual(fill_that_makes_all(Box(), "120220000"), "120220000")

    def test_beside_a_box_that_makes_all(self):
        self.assertEqual(fill_that_makes_all(Box("webb 120220000"), "???"), "000")
        self.assertEqual(fill_that_makes_all(Box("webb 120220000"), "2?1"), "201")


class Forced(unittest.TestCase):
    def test_against_all_fillings(self):
        seen = set()
        for sheet in SHEETS:
            for word in WORDS:
                able = [table for table in filled(sheet) if word in words_of(table)]
                told = "".join(column[0] if len(set(column)) == 1 else "?" for column in zip(*able)) or None
                got = forced(sheet, word)
                self.assertEqual(got, told, (sheet, word))
                seen.add((got is None, got == sheet, got is not None and "?" in got))
                if got is not None and got != sheet:
                    self.assertEqual(forced(got, word), got)
        told = {(True, False, False), (False, True, True), (False, False, True), (False, False, False)}
        self.assertTrue(seen >= told, seen)

    def test_none_keeps_it(self):
        self.assertIsNone(forced("10?", "set 1"))
        self.assertIsNone(forced("11?", "turn"))
        self.assertIsNone(forced("1??????00", "set 0"))
        self.assertIsNone(forced("012??????" + "0" * 17 + "1", "chain 1"))


class SheetOf(Calls):
    def test_of_the_values_of_sheets(self):
        for sheet in SHEETS:
            count = {3: 1, 9: 2, 27: 3}[len(sheet)]
            told = tuple(
                (arguments, int(sign)) for arguments, sign in zip(arguments_of(count), sheet) if sign != "?"
            )
            self.assertEqual(sheet_of(count, told), sheet)
            self.assertEqual(sheet_of(count, told[::-1]), sheet)
            self.assertEqual(sheet_of(count, told[1::2] + told[::2]), sheet)

    def test_whole_tables(self):
        for table in TABLES:
            count = {3: 1, 9: 2, 27: 3}[len(table)]
            told = tuple((arguments, looked_up(table, arguments)) for arguments in arguments_of(count))
            self.assertEqual(sheet_of(count, told), table)

    def test_six_open_signs_and_more(self):
        for count in (1, 2, 3):
            rows = arguments_of(count)
            for many in range(len(rows) + 1):
                told = tuple((arguments, sum(arguments) % 3) for arguments in rows[len(rows) - many:])
                left = len(rows) - many
                if left > 6:
                    with self.assertRaises(TooMany) as caught:
                        sheet_of(count, told)
                    self.assertEqual(caught.exception.given, left)
                    self.assertIs(type(caught.exception.given), int)
                else:
                    got = sheet_of(count, told)
                    self.assertEqual(got[:left], "?" * left)
                    self.assertNotIn("?", got[left:])

    def test_nothing_told(self):
        self.assertEqual(sheet_of(1, ()), "???")
        self.raised_many(9, 2)
        self.raised_many(27, 3)

    def raised_many(self, many, count):
        with self.assertRaises(TooMany) as caught:
            sheet_of(count, ())
        self.assertEqual(caught.exception.given, many)


class Unchanged(unittest.TestCase):
    def test_equal_calls_return_equal_results(self):
        for name, told in PARAMETERS.items():
            values = {
                "box": Box(MAX), "sheet": "12?1?2222", "word": "chain 1", "count": 1, "told": (((0,), 2), ((1,), 0)),
            }
            function = getattr(sheets, name)
            passed = [values[word] for word in told]
            before = repr(passed), passed[0] == Box(MAX)
            self.assertEqual(function(*passed), function(*passed))
            self.assertEqual((repr(passed), passed[0] == Box(MAX)), before)


if __name__ == "__main__":
    unittest.main()
