"""What a Desk raises, and that nothing is otherwise then."""

import unittest

from tests.samples import BIG, GREATEST, NO_BOXES, ODD, Calls
from tests.test_desks import desk_of, state
from tests.test_mends_wrong import NO_WISHES
from threevalues.boxes import Box
from threevalues.desks import Desk
from threevalues.errors import (
    Broken, InUse, InvalidName, InvalidNumber, InvalidWish, NotABox, NothingToUndo, UnknownName,
)

MAX = "max " + GREATEST
PAIR, TWO = Box(MAX, "up 120"), Box(MAX, "swap 210")
WISHES = (("lab", ("all",)), ("two", ("keeps", "set 1")), ("alike", "lab", "more"))
# What is no name of a desk with the names lab, two and more; some of it is a name.
UNKNOWN = (
    *ODD, "labs", "la", "LAB", "lab ", " lab", "lab\n", "alike", "all", "keeps", "x", "lab two", 0, 1, -1, ("lab",),
    ["lab"], b"lab", {"lab": PAIR}, {"lab"}, PAIR, TWO, Desk, Desk(), len, object(),
)
NO_NAMES = (
    *(x for x in ODD if x != "a"), "", "abcdefghi", "x" * 2000, "Lab", "LAB", "lab1", "la-b", "la_b", "la b", " lab",
    "lab ", "lab\n", "\nlab", "\u00e4", "\uff41", "1", "lab.", ("lab",), ["lab"], b"lab", {"lab": 1}, PAIR, 7,
)


class Refused(Calls):
    def setUp(self):
        self.desk = desk_of({"lab": PAIR, "two": TWO, "more": PAIR}, WISHES)
        self.empty = Desk()
        self.before = state(self.desk)

    def tearDown(self):
        self.assertEqual(state(self.desk), self.before)
        self.assertEqual(state(self.empty), ((), (), (), 0, 0))
        # What was refused is not among what can be taken back.
        self.desk.undo()
        self.assertEqual(self.desk.wishes, WISHES[:2])
        with self.assertRaises(NothingToUndo):
            self.empty.undo()


class Names(Refused):
    def test_put(self):
        for x in NO_NAMES:
            for desk in (self.desk, self.empty):
                for box in (PAIR, TWO, None, "up 120"):
                    self.raised(InvalidName, x, desk.put, x, box)
                    self.raised(InvalidName, x, desk.put, box=box, name=x)

    def test_put_of_no_box(self):
        for x in (*NO_BOXES, *ODD, Desk(), self.desk):
            for name in ("lab", "new", "abcdefgh"):
                for desk in (self.desk, self.empty):
                    self.raised(NotABox, x, desk.put, name, x)
                    self.raised(NotABox, x, desk.put, box=x, name=name)

    def test_broken_comes_last(self):
        with self.assertRaises(Broken) as caught:
            self.desk.put("lab", TWO)
        self.assertEqual((caught.exception.index, caught.exception.shown), (0, ("set 1", "set 02", "centre 1")))
        self.raised(InvalidName, "Lab", self.desk.put, "Lab", TWO)
        self.raised(NotABox, TWO.rows, self.desk.put, "lab", TWO.rows)

    def test_named_and_drop(self):
        for x in UNKNOWN:
            for desk in (self.desk, self.empty):
                for method in (desk.named, desk.drop):
                    self.raised(UnknownName, x, method, x)
                    self.raised(UnknownName, x, method, name=x)
        for x in ("lab", "two"):
            self.raised(UnknownName, x, self.empty.named, x)
            self.raised(UnknownName, x, self.empty.drop, x)

    def test_drop_of_names_in_use(self):
        for name, index in (("lab", 0), ("two", 1), ("more", 2)):
            self.raised_at(InUse, index, self.desk.drop, name)


class Wishes(Refused):
    def test_wishes_that_are_none(self):
        wrong = (
            *[x for x in NO_WISHES if x != ("lab", ("all",)) and not self.is_triple(x)],
            *[("lab", x) for x in NO_WISHES], *[(None, x) for x in NO_WISHES], ["lab", ("all",)], ("lab", ["all"]),
            ("lab",), (("all",),), ("lab", ("all",), None), ("lab", "all"), ("lab", "all", "two"), (("all",), "lab"),
            ("alike", "lab"), ("alike", "lab", "more", "two"), ["alike", "lab", "more"], ("unlike", "lab", "two"),
            ("Alike", "lab", "more"), (None, "lab", "more"), (("alike",), "lab", "more"), (PAIR, "lab", "more"),
            ("lab", ("alike", "lab", "more")), ("lab", ("alike", "more")), ("lab", ("lab", ("all",))), PAIR, self.desk,
            ("all",), ("keeps", "set 1"), ("alike", PAIR), ("alike", ()), ("alike", ("all",), ("all",), ("all",)),
        )
        for x in wrong:
            for desk in (self.desk, self.empty):
                self.raised(InvalidWish, x, desk.wish, x)
            self.raised(InvalidWish, x, self.desk.wish, wish=x)

    def is_triple(self, x):
        """Whether x has the form of a wish about two names."""
        return isinstance(x, tuple) and len(x) == 3 and x[0] == "alike"

    def test_names_that_are_not_there(self):
        for x in UNKNOWN:
            for kind in (("all",), ("keeps", "set 0"), ("leaves", "turn"), ("makes", "012"), ("alike", PAIR)):
                self.raised(UnknownName, x, self.desk.wish, (x, kind))
            self.raised(UnknownName, x, self.empty.wish, wish=(x, ("all",)))
            self.raised(UnknownName, x, self.desk.wish, ("alike", x, "lab"))
            self.raised(UnknownName, x, self.desk.wish, ("alike", "lab", x))
            self.raised(UnknownName, x, self.desk.wish, wish=("alike", x, object()))
            self.raised(UnknownName, x, self.empty.wish, ("alike", x, "lab"))

    def test_the_first_of_two_names(self):
        one, other = ["x"], ["x"]
        for desk in (self.desk, self.empty):
            self.raised(UnknownName, one, desk.wish, ("alike", one, other))
            self.raised(UnknownName, other, desk.wish, ("alike", other, one))
        self.raised(UnknownName, "a", self.desk.wish, ("alike", "a", "b"))
        self.raised(UnknownName, "lab", self.empty.wish, ("alike", "lab", "two"))

    def test_no_wish_comes_before_the_names(self):
        for x in UNKNOWN:
            wish = (x, ("every",))
            self.raised(InvalidWish, wish, self.desk.wish, wish)
            wish = ("every", x, x)
            self.raised(InvalidWish, wish, self.desk.wish, wish)

    def test_broken_tells_the_number_of_wishes(self):
        for wish, shown in (
            (("two", ("all",)), ("set 1", "set 02", "centre 1")), (("two", ("leaves", "set 1")), ("max", "swap")),
            (("alike", "two", "lab"), "set 1"), (("lab", ("unlike", PAIR)), "alike"),
        ):
            with self.assertRaises(Broken) as caught:
                self.desk.wish(wish)
            self.assertEqual((caught.exception.index, caught.exception.shown), (3, shown))


class Numbers(Refused):
    def test_lift(self):
        for x in (*ODD, 3, 4, -1, -3, "0", (0,), [0], None, BIG, 2 ** 64, WISHES[0], {0: 0}, b"0"):
            self.raised(InvalidNumber, x, self.desk.lift, x)
            self.raised(InvalidNumber, x, self.desk.lift, index=x)
        for x in (0, 1, -1, None):
            self.raised(InvalidNumber, x, self.empty.lift, x)


if __name__ == "__main__":
    unittest.main()
