"""What a Shelf does, and what it raises."""

import inspect
import itertools
import unittest

from tests.samples import BIG, BOXES, GREATEST, LEAST, ODD, RULED_2, RULED_3, Calls
from threevalues.boxes import Box
from threevalues.errors import InvalidRows, NothingToUndo, UnknownName
from threevalues.making import kept, makes_all
from threevalues.relations import WORDS, keeps
from threevalues.shelves import Shelf

MAX = "max " + GREATEST
METHODS = {"put": ("row",), "take": ("name",), "tried": ("row",), "undo": ()}
PROPERTIES = ("box", "kept", "complete", "changes")
NO_ROWS = (
    *ODD, "new", "new ", "new 12", "new  120", " new 120", "new 120 ", "new 120\n", "newer 120", "New 120", "n1 120",
    "120", "new 123", ("new 120",), ["new 120"], b"new 120", ("new", "120"), Box("new 120"),
)


def shelf_of(box):
    """A shelf with the rows of a box."""
    shelf = Shelf()
    for row in box.rows:
        shelf.put(row)
    return shelf


def all_of(shelf):
    """What a shelf tells of itself."""
    return shelf.box.rows, shelf.kept, shelf.complete, shelf.changes


class Shelves(Calls):
    def tells(self, shelf, rows, changes):
        """That the shelf tells what is due for these rows and this number of changes."""
        words = tuple(
            word for word in WORDS if all(keeps(row.partition(" ")[2], word) for row in rows)
        )
        self.assertIs(type(shelf.box), Box)
        self.assertEqual(all_of(shelf), (tuple(rows), words, words == (), changes))
        self.assertIs(type(shelf.complete), bool)
        self.assertIs(type(shelf.changes), int)
        return words


class Interface(Shelves):
    def test_names_and_parameters(self):
        self.assertEqual(Shelf.__module__, "threevalues.shelves")
        for name, told in METHODS.items():
            self.assertIn(name, vars(Shelf))
            self.parameters(getattr(Shelf(), name), told)
        for name in PROPERTIES:
            self.assertIn(name, vars(Shelf))
        self.assertEqual(len(inspect.signature(Shelf).parameters), 0)

    def test_by_name(self):
        shelf = Shelf()
        self.assertEqual(shelf.tried(row="up 120"), shelf.put(row="up 120"))
        self.assertEqual(len(shelf.take(name="up")), 15)
        self.tells(shelf, (), 2)

    def test_example(self):
        shelf, up, words = Shelf(), "up 120", kept(Box())
        got = [
            shelf.put(up) == words[:9] + words[11:17], shelf.kept, shelf.tried("swap 210"), shelf.put(MAX),
            shelf.complete, shelf.take("up")[:2], shelf.undo(), shelf.changes, shelf.box.names,
        ]
        self.assertEqual(got, [
            True, ("turn", "sums", "mixed"), ("turn",), ("turn", "sums", "mixed"), True, ("set 0", "set 1"), None, 2,
            ("up", "max"),
        ])

    def test_a_new_shelf(self):
        self.tells(Shelf(), (), 0)
        self.assertEqual(Shelf().box, Box())
        self.assertEqual(Shelf().kept, WORDS)
        self.assertTrue(Shelf())


class Changes(Shelves):
    def test_putting_row_by_row(self):
        for box in BOXES:
            shelf = Shelf()
            before = WORDS
            for at, row in enumerate(box.rows):
                told = shelf.tried(row)
                self.tells(shelf, box.rows[:at], at)
                got = shelf.put(row)
                after = self.tells(shelf, box.rows[:at + 1], at + 1)
                self.assertIs(type(got), tuple)
                self.assertEqual(got, tuple(word for word in before if word not in after))
                self.assertEqual(got, told)
                before = after
            self.assertEqual(shelf.box, box)
            self.assertEqual(shelf.kept, kept(box))
            self.assertIs(shelf.complete, makes_all(box))

    def test_taking_row_by_row(self):
        for box in BOXES:
            for order in ((0, 1, 2, 3, 4, 5), (5, 4, 3, 2, 1, 0), (2, 0, 4, 1, 5, 3)):
                shelf, rows = shelf_of(box), list(box.rows)
                changes, before = len(rows), kept(box)
                for at in order:
                    if at >= len(box):
                        continue
                    rows.remove(box.rows[at])
                    changes += 1
                    got = shelf.take(box.names[at])
                    after = self.tells(shelf, rows, changes)
                    self.assertIs(type(got), tuple)
                    self.assertEqual(got, tuple(word for word in after if word not in before))
                    before = after
                self.assertEqual(shelf.kept, WORDS)

    def test_putting_taking_and_undoing_in_turns(self):
        rows = [
            "a 120", "b " + GREATEST, "c 210", "d " + LEAST, "e 120220000", "f " + RULED_3[10], "g " + RULED_2[2],
            "h 012",
        ]
        shelf, history = Shelf(), [()]
        # Any number over 8 undoes, the others put a row or take it away.
        for turn in (0, 1, 9, 1, 2, 0, 9, 9, 3, 4, 1, 9, 9, 9, 5, 6, 7, 0, 9, 4, 5, 9, 9, 3, 2, 9, 1, 7, 9, 9, 9, 6):
            now = history[-1]
            if turn > 8:
                self.assertIsNone(shelf.undo())
                history.pop()
            elif rows[turn] in now:
                shelf.take(rows[turn][0])
                history.append(tuple(row for row in now if row != rows[turn]))
            elif len(now) < 6:
                shelf.put(rows[turn])
                history.append((*now, rows[turn]))
            self.tells(shelf, history[-1], len(history) - 1)
        self.assertGreater(len(history), 5)
        while len(history) > 1:
            self.assertIsNone(shelf.undo())
            history.pop()
            self.tells(shelf, history[-1], len(history) - 1)
        self.nothing_to_undo(shelf)

    def nothing_to_undo(self, shelf):
        for _ in range(2):
            with self.assertRaises(NothingToUndo) as caught:
                shelf.undo()
            self.assertIs(type(caught.exception), NothingToUndo)
            self.tells(shelf, (), 0)

    def test_nothing_to_undo(self):
        shelf = Shelf()
        self.nothing_to_undo(shelf)
        shelf.put(MAX)
        shelf.undo()
        self.nothing_to_undo(shelf)
        shelf.tried(MAX)
        self.nothing_to_undo(shelf)
        shelf.put("up 120")
        shelf.take("up")
        self.tells(shelf, (), 2)
        shelf.undo()
        self.tells(shelf, ("up 120",), 1)

    def test_rows_that_take_no_word_away(self):
        shelf = Shelf()
        self.assertEqual(shelf.tried("id 012"), ())
        self.assertEqual(shelf.put("id 012"), ())
        self.assertEqual(shelf.put("last 012012012"), ())
        self.tells(shelf, ("id 012", "last 012012012"), 2)
        self.assertEqual(len(shelf.put("webb 120220000")), 18)
        self.assertEqual(shelf.tried("one 111"), ())
        self.assertEqual(shelf.put("one 111"), ())
        self.assertEqual(shelf.take("one"), ())
        self.assertEqual(shelf.take("id"), ())
        self.tells(shelf, ("last 012012012", "webb 120220000"), 6)

    def test_rows_keep_their_order(self):
        shelf = shelf_of(Box("a 012", "b 120", "c 021"))
        shelf.take("b")
        shelf.put("b 111")
        self.tells(shelf, ("a 012", "c 021", "b 111"), 5)
        shelf.undo()
        shelf.undo()
        self.tells(shelf, ("a 012", "b 120", "c 021"), 3)

    def test_two_shelves_beside_one_another(self):
        one, other = Shelf(), Shelf()
        one.put("up 120")
        other.put(MAX)
        other.put("swap 210")
        self.tells(one, ("up 120",), 1)
        self.tells(other, (MAX, "swap 210"), 2)
        one.undo()
        self.tells(other, (MAX, "swap 210"), 2)
        self.nothing_to_undo(one)
        other.take("max")
        self.tells(one, (), 0)

    def test_a_box_that_was_told_stays_as_it_is(self):
        shelf = shelf_of(Box("up 120"))
        box, words = shelf.box, shelf.kept
        shelf.put(MAX)
        shelf.take("up")
        self.assertEqual((box.rows, words), (("up 120",), ("turn", "sums", "mixed")))

    def test_shelves_are_not_equal(self):
        shelf = Shelf()
        for x in (Shelf(), Box(), (), None, 0, "", False):
            self.assertIs(shelf == x, False)
            self.assertIs(shelf != x, True)


class Refused(Shelves):
    def check(self, box, calls):
        """That each of the calls, of a kind of error, an index and a row, leaves a shelf with this box as it was."""
        shelf = shelf_of(box)
        for index, row in calls:
            before = all_of(shelf)
            for method in (shelf.put, shelf.tried):
                self.raised_at(InvalidRows, index, method, row)
                self.raised_at(InvalidRows, index, method, row=row)
            self.assertEqual(all_of(shelf), before)
        if len(box) > 0:
            shelf.undo()
            self.tells(shelf, box.rows[:-1], len(box) - 1)

    def test_rows_that_are_none(self):
        for box in (Box(), Box("up 120"), Box(MAX, "up 120", "low 010")):
            self.check(box, [(len(box), row) for row in NO_ROWS])

    def test_names_that_are_there(self):
        self.check(Box(MAX, "up 120"), [(2, "up 120"), (2, "up 000"), (2, "max 000"), (2, MAX)])

    def test_a_seventh_row(self):
        full = Box("a 012", "b 012", "c 012", "d 012", "e 012", "f 012")
        self.check(full, [(None, row) for row in (*NO_ROWS, "g 012", "a 012", "f 120")])

    def test_a_name_that_was_taken_may_come_again(self):
        shelf = shelf_of(Box("a 012", "b 012", "c 012", "d 012", "e 012", "f 012"))
        shelf.take("a")
        self.assertEqual(shelf.tried("a 120"), shelf.put("a 120"))
        self.raised_at(InvalidRows, None, shelf.put, "g 120")

    def test_unknown_names(self):
        for box in (Box(), Box("up 120"), Box(MAX, "up 120")):
            shelf = shelf_of(box)
            before = all_of(shelf)
            for x in (
                *ODD, "ma", "maxi", "MAX", "max ", "up 120", MAX, GREATEST, "u", "", 0, 1, -1, ("up",), ["up"], b"up",
                BIG, box, shelf, Shelf,
            ):
                self.raised(UnknownName, x, shelf.take, x)
                self.raised(UnknownName, x, shelf.take, name=x)
            self.assertEqual(all_of(shelf), before)
        for first, second in itertools.permutations(("up", "max")):
            shelf = shelf_of(Box(MAX, "up 120"))
            shelf.take(first)
            self.raised(UnknownName, first, shelf.take, first)
            shelf.take(second)
            self.tells(shelf, (), 4)


if __name__ == "__main__":
    unittest.main()
