"""Values that answer strangely when they are compared, counted or iterated: they are never taken for others."""

import unittest

from tests.samples import GREATEST, LEAST, UP, Calls
from threevalues import checker, making, mends, relations, sheets, tables
from threevalues.boxes import Box
from threevalues.certificates import certify_box, certify_made, certify_table
from threevalues.checker import accepts
from threevalues.console import Console
from threevalues.desks import Desk
from threevalues.errors import (
    InvalidArguments, InvalidExchanges, InvalidLot, InvalidName, InvalidNumber, InvalidOrder, InvalidRows,
    InvalidSheet, InvalidSteps, InvalidTable, InvalidTables, InvalidText, InvalidTold, InvalidWish, InvalidWishes,
    InvalidWord, NotABox, UnknownName,
)
from threevalues.shelves import Shelf

PAIR = Box("max " + GREATEST, "up 120")


class Same:
    """Equals everything."""

    def __eq__(self, other):
        return True

    def __hash__(self):
        return 0

    def __repr__(self):
        return "Same"


class Wild:
    """Cannot be compared, counted, iterated, hashed or tested."""

    def wild(self, *_):
        raise RuntimeError("asked")

    __eq__ = __ne__ = __lt__ = __gt__ = __le__ = __ge__ = __len__ = __iter__ = __hash__ = __bool__ = wild
    __contains__ = __getitem__ = __index__ = __int__ = __add__ = __call__ = wild

    def __repr__(self):
        return "Wild"


class Strange(Calls):
    def setUp(self):
        self.desk = Desk()
        self.desk.put("lab", PAIR)
        self.shelf = Shelf()
        self.shelf.put("up 120")

    def calls(self, x):
        """Calls with x where an error is told that has the attribute `given`: its kind, that value, and the call."""
        given = (
            (InvalidTable, x, tables.value, x, (0,)), (InvalidTable, x, relations.kept_by, x),
            (InvalidArguments, x, tables.value, UP, x), (InvalidOrder, x, tables.renamed, UP, x),
            (InvalidOrder, x, tables.turned_round, UP, x), (InvalidTables, x, tables.put_together, UP, x),
            (InvalidWord, x, relations.relation, x), (InvalidWord, x, relations.keeps, UP, x),
            (InvalidText, x, Box.read, x), (UnknownName, x, PAIR.table_of, x), (InvalidNumber, x, PAIR.with_row, x, ""),
            (InvalidLot, x, PAIR.part, x), (UnknownName, x, PAIR.without, x), (InvalidOrder, x, PAIR.renamed, x),
            (NotABox, x, making.kept, x), (InvalidTable, x, making.steps, PAIR, x),
            (InvalidNumber, x, making.few_places, PAIR, x, 9), (InvalidNumber, x, making.few_places, PAIR, 1, x),
            (InvalidTables, x, making.best_of, PAIR, x), (NotABox, x, making.unlike, PAIR, x),
            (InvalidSheet, x, sheets.fillings, x), (InvalidWord, x, sheets.forced, "1?0", x),
            (InvalidNumber, x, sheets.sheet_of, x, ()), (UnknownName, x, self.shelf.take, x),
            (NotABox, x, mends.fault, x, ("all",)), (InvalidWish, x, mends.fault, PAIR, x),
            (InvalidName, x, self.desk.put, x, PAIR), (NotABox, x, self.desk.put, "lab", x),
            (UnknownName, x, self.desk.named, x), (UnknownName, x, self.desk.drop, x),
            (InvalidWish, x, self.desk.wish, x), (UnknownName, x, self.desk.wish, (x, ("all",))),
            (UnknownName, x, self.desk.wish, ("alike", x, "lab")),
            (UnknownName, x, self.desk.wish, ("alike", "lab", x)), (InvalidNumber, x, self.desk.lift, x),
            (NotABox, x, certify_box, x), (InvalidTable, x, certify_made, PAIR, x),
            (InvalidWord, x, certify_table, UP, x), (NotABox, x, Console, x), (InvalidText, x, Console(PAIR).say, x),
        )
        within = (
            (InvalidArguments, tables.value, UP, (x,)), (InvalidOrder, tables.renamed, UP, (0, 1, x)),
            (InvalidOrder, tables.turned_round, GREATEST, (x, 1)), (InvalidTables, tables.put_together, UP, (x,)),
            (InvalidLot, PAIR.part, (0, x)), (InvalidTables, making.best_of, PAIR, (UP, x)),
            *[(InvalidWish, mends.fault, PAIR, wish) for wish in (
                (x,), (x, "set 0"), ("keeps", x), ("leaves", x), ("makes", x), ("alike", x), ("unlike", x), (x, PAIR),
                ("all", x), (x, x),
            )],
            *[(InvalidWish, self.desk.wish, wish) for wish in (
                (x,), ("lab", x), ("lab", (x,)), (x, "lab", "lab"), ("lab", ("keeps", x)), (x, x), (x, x, x),
            )],
        )
        return [*given, *[(kind, told[-1], *told) for kind, *told in within]]

    def test_given(self):
        for x in (Same(), Wild()):
            for kind, given, function, *passed in self.calls(x):
                self.raised(kind, given, function, *passed)
        self.assertEqual((self.desk.names, self.desk.wishes, self.desk.changes), (("lab",), (), 1))
        self.assertEqual(self.shelf.changes, 1)

    def test_index(self):
        for x in (Same(), Wild()):
            for kind, index, function, *passed in (
                (InvalidRows, 0, Box, x), (InvalidRows, 1, PAIR.with_row, 1, x), (InvalidRows, 2, PAIR.plus, x),
                (InvalidRows, 1, self.shelf.put, x), (InvalidRows, 1, self.shelf.tried, x),
                (InvalidRows, 2, making.brings, PAIR, x), (InvalidSteps, None, making.made, PAIR, x),
                (InvalidSteps, 0, making.made, PAIR, (x,)), (InvalidSteps, 0, making.made, PAIR, ((x, (0,)),)),
                (InvalidSteps, 0, making.made, PAIR, (("up", x),)),
                (InvalidSteps, 0, making.made, PAIR, (("up", (x,)),)),
                (InvalidTold, None, sheets.sheet_of, 1, x), (InvalidTold, 0, sheets.sheet_of, 1, (x,)),
                (InvalidTold, 0, sheets.sheet_of, 1, ((x, 1),)), (InvalidTold, 0, sheets.sheet_of, 1, (((x,), 1),)),
                (InvalidTold, 0, sheets.sheet_of, 1, (((0,), x),)),
                (InvalidExchanges, None, mends.mending, PAIR, x, ()),
                (InvalidExchanges, 0, mends.mending, PAIR, (x,), ()),
                (InvalidExchanges, 0, mends.mending, PAIR, ((x, "a 012"),), ()),
                (InvalidExchanges, 0, mends.mending, PAIR, ((0, x),), ()),
                (InvalidWishes, None, mends.mending, PAIR, (), x), (InvalidWishes, 0, mends.mending, PAIR, (), (x,)),
                (InvalidWishes, 0, mends.mending, PAIR, (), ((x,),)),
            ):
                self.raised_at(kind, index, function, *passed)

    def test_the_checker(self):
        all_claim, all_steps = certify_box(PAIR)
        for x in (Same(), Wild()):
            for claim, certificate in (
                (x, ()), (x, x), ((x,), ()), ((x, x, x), ()), ((x, x, x, x), ()), ((x, "", "turn"), ()),
                (("kept", x, "turn"), ()), (("kept", "", x), ()), (("kept", "", "turn"), x),
                (("kept", "", "turn"), (x,)),
                ((x, UP, "set 1", ((1,),)), ()), (("out", x, "set 1", ((1,),)), ()), (("out", UP, x, ((1,),)), ()),
                (("out", UP, "set 1", x), ()), (("out", UP, "set 1", (x,)), ()), (("out", UP, "set 1", ((x,),)), ()),
                (("out", UP, "set 1", ((1,),)), x), (("made", "", x), ()), (("made", x, "012"), ()),
                (("made", "", "012"), x), (("made", "", "012"), (x,)), ((x, "", "012"), ()),
                ((x, *all_claim[1:]), all_steps), (("all", x, "max"), all_steps), ((*all_claim[:2], x), all_steps),
                (all_claim, x), (all_claim, (*all_steps, x)), (all_claim, (*all_steps, (x, (0,)))),
                (all_claim, (*all_steps, ("up", x))), (all_claim, (*all_steps, ("up", (x,)))),
            ):
                self.assertIs(checker.accepts(claim, certificate), False, (claim, certificate))
        self.assertIs(accepts(all_claim, all_steps), True)

    def test_beside_equality(self):
        for box in (PAIR, Box(), Box("min " + LEAST)):
            for x in (Same(), Wild()):
                self.assertIs(box == x, False)
                self.assertIs(box != x, True)


if __name__ == "__main__":
    unittest.main()
