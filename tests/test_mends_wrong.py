"""What mends raise for arguments that are not valid."""

import unittest

from tests.samples import BIG, BOXES, GREATEST, LEAST, NO_BOXES, ODD, UP, Calls
from threevalues.boxes import Box
from threevalues.errors import InvalidExchanges, InvalidWish, InvalidWishes, NotABox
from threevalues.mends import fault, mending
from threevalues.relations import WORDS

MAX = "max " + GREATEST
PAIR = Box(MAX, "up 120")
NO_TABLES = (None, True, 0, 120, "", "12", "1200", "12a", "123", GREATEST, LEAST * 3, ["120"], ("120",), b"120", PAIR)
NO_WORDS = (None, True, 0, "", "set", "set 3", "set  0", "set 0 ", "Set 0", "turn 0", "120", ["turn"], ("turn",), PAIR)
NO_WISHES = (
    *ODD, (), "all", ["all"], ("All",), ("ALL",), ("all ",), ("",), (b"all",), (("all",),), ("all", None), ("all", ()),
    ("all", "all"), ("all", "set 0"), ("all", PAIR), {"all": 1}, ("every",), ("lab", ("all",)), ("alike", "a", "b"),
    *[(word,) for word in ("keeps", "leaves", "makes", "unlike", "alike")],
    *[(kind, word) for kind in ("keeps", "leaves") for word in NO_WORDS],
    *[(kind, word, word) for kind in ("keeps", "leaves") for word in ("set 0", "turn")],
    *[[kind, word] for kind in ("keeps", "leaves") for word in ("set 0", "turn")],
    *[(kind, "set 0") for kind in ("keep", "Keeps", "kept", "leave", "all", "", "makes", "unlike", "alike", None, 0)],
    *[("makes", table) for table in NO_TABLES], ("makes", "120", "201"), ["makes", "120"], ("made", "120"),
    *[(kind, x) for kind in ("unlike", "alike") for x in (*NO_BOXES, *ODD)],
    *[(kind, PAIR) for kind in ("like", "Alike", "keeps", "leaves", "makes", None, PAIR, ("alike",))],
    ("alike", PAIR, PAIR), ("unlike", PAIR, PAIR), ["alike", PAIR], (PAIR, "alike"), (PAIR,), PAIR, ("turn",), WORDS,
)
GOOD = (("all",), ("keeps", "turn"), ("leaves", "set 01"), ("makes", UP), ("unlike", PAIR), ("alike", Box()))


class WrongFaults(Calls):
    def test_boxes(self):
        for x in (*NO_BOXES, *ODD):
            for wish in (("all",), ("every",), None):
                self.raised(NotABox, x, fault, x, wish)
                self.raised(NotABox, x, fault, wish=wish, box=x)

    def test_wishes(self):
        for x in NO_WISHES:
            for box in (PAIR, Box()):
                self.raised(InvalidWish, x, fault, box, x)
                self.raised(InvalidWish, x, fault, wish=x, box=box)


class WrongMending(Calls):
    def test_boxes(self):
        for x in (*NO_BOXES, *ODD):
            for exchanges in ((), None):
                for wishes in ((), None):
                    self.raised(NotABox, x, mending, x, exchanges, wishes)
                    self.raised(NotABox, x, mending, wishes=wishes, exchanges=exchanges, box=x)

    def test_exchanges_that_are_no_tuple(self):
        for x in (*(x for x in ODD if not isinstance(x, tuple)), [(0, "a 012")], {0: "a 012"}, PAIR, "ab", 0):
            for wishes in ((), (("all",),), (("every",),), None):
                for box in (PAIR, Box()):
                    self.raised_at(InvalidExchanges, None, mending, box, x, wishes)
                    self.raised_at(InvalidExchanges, None, mending, wishes=wishes, exchanges=x, box=box)

    def test_five_exchanges_and_six(self):
        five = tuple((k % 2, f"{'abcde'[k]} 120220000") for k in range(5))
        self.assertEqual(mending(PAIR, five, (("all",),)), ((),))
        self.assertEqual(mending(Box("a 012", "b 012"), five, (("all",),)), ((0,), (1,), (2,), (3,), (4,)))
        for last in ((0, "f 012"), None, (9, "f 012")):
            for wishes in ((), None):
                self.raised_at(InvalidExchanges, None, mending, PAIR, (*five, last), wishes)
        self.raised_at(InvalidExchanges, None, mending, PAIR, (None,) * 60, ())
        self.raised_at(InvalidExchanges, None, mending, Box(), (None,) * 6, ())

    def test_exchanges_that_are_none(self):
        wrong = (
            *ODD, (), (0,), ("a 012",), (0, "a 012", None), (0, "a 012", "b 012"), [0, "a 012"], ("a 012", 0),
            (2, "a 012"), (-1, "a 012"), (BIG, "a 012"), (-BIG, "a 012"), (True, "a 012"), (False, "a 012"),
            (None, "a 012"), ("0", "a 012"), ((0,), "a 012"), (0, None), (0, 12), (0, b"a 012"), (0, ("a 012",)),
            (0, ["a 012"]), (0, ("a", "012")), (0, PAIR), (0, ()), {0: "a 012", 1: "b 012"}, PAIR, "0a",
        )
        for x in wrong:
            for wishes in ((), (("every",),), None):
                self.raised_at(InvalidExchanges, 0, mending, PAIR, (x,), wishes)
                self.raised_at(InvalidExchanges, 1, mending, PAIR, ((1, ""), x, x), wishes)
            self.raised_at(InvalidExchanges, 4, mending, wishes=(), exchanges=(*[(0, "x")] * 4, x), box=PAIR)
            self.raised_at(InvalidExchanges, 0, mending, PAIR, (x, (0, "a 012"), x), ())

    def test_indexes_of_rows(self):
        for box in BOXES:
            many = len(box)
            if many > 0:
                self.assertEqual(mending(box, ((many - 1, "none"),), ()), ((),))
            for index in (many, many + 1, -1, -many):
                if not 0 <= index < many:
                    self.raised_at(InvalidExchanges, 0, mending, box, ((index, "a 012"),), ())

    def test_wishes_that_are_no_tuple(self):
        for x in (*(x for x in ODD if not isinstance(x, tuple)), [("all",)], {("all",): 0}, PAIR, "all", 0):
            self.raised_at(InvalidWishes, None, mending, PAIR, (), x)
            self.raised_at(InvalidWishes, None, mending, wishes=x, exchanges=((0, "x"),), box=PAIR)

    def test_wishes_that_are_none(self):
        for x in NO_WISHES:
            for box, exchanges in ((PAIR, ((0, "a 012"),)), (Box(), ())):
                self.raised_at(InvalidWishes, 0, mending, box, exchanges, (x,))
                self.raised_at(InvalidWishes, 6, mending, box, exchanges, (*GOOD, x, ("all",), x))
            self.raised_at(InvalidWishes, 1, mending, wishes=(("all",), x), exchanges=(), box=PAIR)

    def test_a_wish_in_the_place_of_wishes(self):
        self.raised_at(InvalidWishes, 0, mending, PAIR, (), ("all",))
        self.raised_at(InvalidWishes, 0, mending, PAIR, (), ("keeps", "turn"))

    def test_wishes_are_looked_at_before_any_is_asked(self):
        self.raised_at(InvalidWishes, 1, mending, Box(), (), (("all",), ("every",)))
        self.assertEqual(mending(PAIR, (), GOOD * 3), ())


if __name__ == "__main__":
    unittest.main()
