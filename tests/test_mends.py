"""What mends tell for valid arguments."""

import itertools
import unittest

from tests.samples import BOXES, GREATEST, LEAST, RULED_2, RULED_3, SWAP, UP, Calls
from threevalues import mends
from threevalues.boxes import Box
from threevalues.errors import InvalidRows
from threevalues.making import kept, made, makes_all, one_place, steps, unlike
from threevalues.mends import fault, mending
from threevalues.relations import WORDS, keeps, relation

ALL_1 = ["".join(signs) for signs in itertools.product("012", repeat=3)]
MAX = "max " + GREATEST
PAIR, WEBB, TWO = Box(MAX, "up 120"), Box("webb 120220000"), Box(MAX, "swap 210")


def holds(box, wish):
    """Whether a wish holds for a box, told by the questions of making alone."""
    if wish[0] == "all":
        return makes_all(box)
    if wish[0] in ("keeps", "leaves"):
        return (wish[1] in kept(box)) == (wish[0] == "keeps")
    if wish[0] == "makes":
        return steps(box, wish[1]) is not None
    return (unlike(box, wish[1]) is None) == (wish[0] == "alike")


def plainly_mending(box, exchanges, wishes):
    """All least lots of exchanges, by a look at all lots of indexes and all their parts."""
    able = []
    for lot in itertools.product((False, True), repeat=len(exchanges)):
        chosen = [exchange for exchange, taken in zip(exchanges, lot) if taken]
        rows = dict(enumerate(box.rows))
        rows.update(chosen)
        if len({index for index, _ in chosen}) == len(chosen) and is_box(rows.values()):
            if all(holds(Box(*rows.values()), wish) for wish in wishes):
                able.append(tuple(k for k, taken in enumerate(lot) if taken))
    least = [lot for lot in able if not any(set(other) < set(lot) for other in able)]
    return tuple(sorted(least, key=lambda lot: (len(lot), lot)))


def is_box(rows):
    try:
        return Box(*rows) is not None
    except InvalidRows:
        return False


class Interface(Calls):
    def test_names_and_parameters(self):
        for name, told in {"fault": ("box", "wish"), "mending": ("box", "exchanges", "wishes")}.items():
            self.parameters(getattr(mends, name), told)
            self.assertEqual(getattr(mends, name).__module__, "threevalues.mends")

    def test_by_position_and_by_name(self):
        self.assertEqual(self.all_orders(fault, {"box": TWO, "wish": ("leaves", "set 1")}), ("max", "swap"))
        told = {"box": TWO, "exchanges": ((1, "up 120"), (0, "webb 120220000")), "wishes": (("all",),)}
        self.assertEqual(self.all_orders(mending, told), ((0,), (1,)))

    def test_examples(self):
        got = [
            fault(PAIR, ("all",)), fault(TWO, ("all",)), fault(TWO, ("keeps", "set 1")),
            fault(Box("up 120"), ("keeps", "set 2")), fault(TWO, ("leaves", "set 1")), fault(TWO, ("makes", "212")),
            fault(PAIR, ("alike", TWO)), fault(PAIR, ("unlike", WEBB)),
        ]
        self.assertEqual(got, [
            None, ("set 1", "set 02", "centre 1"), None, ("up", ((2,),)), ("max", "swap"), None, "set 1", "alike",
        ])
        exchanges = ((1, "up 120"), (1, "swap 102"), (0, "webb 120220000"), (1, "max 120"))
        self.assertEqual(mending(TWO, exchanges, (("all",),)), ((0,), (2,)))


class Faults(Calls):
    def check(self, box, wish, shown):
        """That the wish shows just this, and holds just if it shows None."""
        got = fault(box, wish)
        self.assertEqual(got, shown, (box.rows, wish))
        self.assertIs(type(got), type(shown))
        self.assertIs(got is None, holds(box, wish))
        self.assertEqual(fault(box, wish), got)
        return got is None

    def test_all(self):
        seen = {self.check(box, ("all",), kept(box) or None) for box in BOXES}
        self.assertEqual(seen, {True, False})

    def test_keeps(self):
        seen = set()
        for box in BOXES:
            for word in WORDS:
                names = [name for name, table in zip(box.names, box.tables) if not keeps(table, word)]
                got = fault(box, ("keeps", word))
                self.assertIs(got is None, holds(box, ("keeps", word)))
                if names:
                    name, rows = got
                    self.assertEqual(name, names[0])
                    self.leads_out(box.table_of(name), word, rows)
                    self.assertIs(type(got), tuple)
                self.assertEqual(fault(box, ("keeps", word)), got)
                seen.add(len(names))
        self.assertTrue(seen >= {0, 1, 2, 3})

    def leads_out(self, table, word, rows):
        """That the rows are of the relation, and lead out of it by the table."""
        told = relation(word)
        self.assertIs(type(rows), tuple)
        self.assertEqual(3 ** len(rows), len(table))
        self.assertTrue(all(row in told for row in rows))
        self.assertNotIn(tuple(int(table[int("".join(map(str, way)), 3)]) for way in zip(*rows)), told)

    def test_leaves(self):
        seen = set()
        for box in BOXES:
            for word in WORDS:
                seen.add(self.check(box, ("leaves", word), box.names if word in kept(box) else None))
        self.assertEqual(seen, {True, False})
        self.assertEqual(fault(Box(), ("leaves", "mixed")), ())

    def test_makes(self):
        seen = set()
        for box in BOXES[:14]:
            tables = one_place(box)
            for table in ("012", *ALL_1[::4], ALL_1[-1]):
                seen.add(self.check(box, ("makes", table), None if table in tables else tables))
        self.assertEqual(seen, {True, False})
        self.assertEqual(fault(Box(), ("makes", UP)), ("012",))
        self.assertIsNone(fault(Box(), ("makes", "012")))

    def test_alike_and_unlike(self):
        seen = set()
        for box, other in itertools.product(BOXES[:14], repeat=2):
            told = unlike(box, other)
            seen.add(self.check(box, ("alike", other), told))
            self.check(box, ("unlike", other), "alike" if told is None else None)
        self.assertEqual(seen, {True, False})

    def test_boxes_alike_with_their_rows_in_another_order(self):
        for box in BOXES:
            other = Box(*box.rows[::-1])
            self.assertIsNone(fault(box, ("alike", other)))
            self.assertEqual(fault(box, ("unlike", other)), "alike")
        one, other = Box("a 120", "b 021"), Box("c 210", "d 201")
        self.assertIsNone(fault(one, ("alike", other)))
        self.assertEqual(fault(one, ("unlike", other)), "alike")

    def test_unlike_by_a_table_of_one_place(self):
        one, other = Box("a 000", "b 111", "c 222"), Box("a 000", "b 111", "c 222", "d 001")
        self.check(one, ("alike", other), unlike(one, other))
        self.check(one, ("unlike", other), None)
        for first in ALL_1:
            for second in ALL_1[::5]:
                left, right = Box("a " + first), Box("a " + second)
                if kept(left) == kept(right) and one_place(left) != one_place(right):
                    least = min(set(one_place(left)) ^ set(one_place(right)))
                    self.check(left, ("alike", right), least)


class Mending(Calls):
    def check(self, box, exchanges, wishes):
        """That the least lots are those of a plain look at all lots; they are returned."""
        before = box.rows
        got = mending(box, exchanges, wishes)
        self.assertIs(type(got), tuple)
        self.assertEqual(got, plainly_mending(box, exchanges, wishes), (box.rows, exchanges, wishes))
        self.assertEqual(mending(box, exchanges, wishes), got)
        self.assertEqual(box.rows, before)
        return got

    def test_no_exchange(self):
        for box in BOXES[:12]:
            for wish in (("all",), ("keeps", "set 1"), ("leaves", "mixed"), ("makes", "120"), ("alike", PAIR)):
                self.assertEqual(self.check(box, (), (wish,)), ((),) if fault(box, wish) is None else ())

    def test_no_wishes(self):
        for box in BOXES:
            exchanges = tuple((index, "new 120") for index in range(min(len(box), 5)))
            self.assertEqual(self.check(box, exchanges, ()), ((),))
        self.assertEqual(mending(Box(), (), ()), ((),))

    def test_a_box_that_mends_as_it_is(self):
        exchanges = ((0, "webb 120220000"), (1, "down 201"), (1, "none"))
        self.assertEqual(self.check(PAIR, exchanges, (("all",), ("leaves", "turn"))), ((),))
        self.assertEqual(self.check(TWO, exchanges, (("keeps", "set 1"),)), ((),))

    def test_nothing_mends(self):
        exchanges = ((0, "a 120"), (1, "b 021"), (0, "c 000"), (1, "d 111"))
        self.assertEqual(self.check(TWO, exchanges, (("all",),)), ())
        self.assertEqual(self.check(TWO, exchanges, (("keeps", "set 1"), ("leaves", "set 1"))), ())
        self.assertEqual(self.check(Box(), (), (("all",),)), ())

    def test_exchanges_of_one_row_twice(self):
        box = Box("a 012", "b 012")
        exchanges = ((0, MAX), (0, "up 120"), (1, "up 120"), (1, MAX), (0, "webb 120220000"))
        self.assertEqual(self.check(box, exchanges, (("all",),)), ((4,), (0, 2), (1, 3)))
        self.assertEqual(self.check(box, ((0, MAX), (0, "up 120")), (("all",),)), ())
        self.assertEqual(self.check(box, ((0, "up 120"), (0, "up 120")), (("makes", UP),)), ((0,), (1,)))

    def test_rows_that_are_none(self):
        box = Box("a 012", "b 012")
        none = ("", "a", "webb 12022000", "webb  120220000", "webb 120220000\n", "x" * 2000, "a 012 b 012", "\n")
        for row in none:
            got = self.check(box, ((0, row), (1, "webb 120220000"), (1, row)), (("all",),))
            self.assertEqual(got, ((1,),))

    def test_names_that_are_there(self):
        box = Box("a 012", "b 012", "c 012")
        self.assertEqual(self.check(box, ((0, "b 120220000"),), (("all",),)), ())
        # With the other row's name out of the way, it may stand there.
        exchanges = ((0, "b 120220000"), (1, "a 111"), (1, "d 111"), (1, "c 111"), (0, "a 120220000"))
        self.assertEqual(self.check(box, exchanges, (("all",),)), ((4,), (0, 1), (0, 2)))

    def test_wishes_that_fewer_exchanges_make_hold(self):
        box = Box("a 120", "b 120", "c 120")
        exchanges = ((0, "a 012"), (1, "b 012"), (2, "c 012"))
        self.assertEqual(self.check(box, exchanges, (("keeps", "set 0"),)), ((0, 1, 2),))
        self.assertEqual(self.check(box, exchanges, (("leaves", "set 0"),)), ((),))
        self.assertEqual(self.check(box, exchanges, (("alike", Box("up 120")),)), ((),))
        self.assertEqual(self.check(box, exchanges, (("unlike", Box("up 120")),)), ((0, 1, 2),))

    def test_ordered_by_length_and_then_as_tuples(self):
        box = Box("a 012", "b 012", "c 012")
        exchanges = ((2, "up 120"), (0, MAX), (1, "low 201"), (2, "webb 120220000"), (1, "min " + LEAST))
        self.assertEqual(self.check(box, exchanges, (("all",),)), ((3,), (0, 1), (0, 4), (1, 2)))

    def test_five_exchanges_against_all_lots(self):
        tables = ("012", UP, SWAP, "111", GREATEST, LEAST, "120220000", RULED_2[2], RULED_3[10], RULED_3[0], "001")
        wishes = (
            (("all",),), (("keeps", "set 1"),), (("keeps", "turn"), ("leaves", "sums")), (("makes", UP),),
            (("makes", "111"), ("leaves", "mixed"), ("keeps", "chain 1")), (("unlike", TWO), ("leaves", "set 1")),
            (("alike", TWO),), (("alike", Box("up 120")),), (("leaves", "mixed"), ("leaves", "mixed")),
        )
        boxes = (Box("a 012", "b 111", "c 001"), TWO, Box("a 120", "b 210"), Box("a 120", "b 012", "c " + RULED_2[2]))
        lots, sizes = iter(itertools.cycle(tables)), set()
        for turn, (box, wish) in enumerate(itertools.product(boxes, wishes)):
            exchanges = tuple(
                ((turn + k) * (k + 1) % len(box), f"{'abcde'[k]} {next(lots)}") for k in range(5)
            )
            sizes.update(len(lot) for lot in self.check(box, exchanges, wish))
        self.assertTrue(sizes >= {0, 1, 2}, sizes)

    def test_told_lots_mend(self):
        box = Box("a 012", "b 012")
        exchanges = ((0, MAX), (1, "up 120"))
        self.assertEqual(mending(box, exchanges, (("makes", "122"),)), ((0, 1),))
        other = box.with_row(0, MAX).with_row(1, "up 120")
        self.assertEqual(made(other, steps(other, "122"))[-1], "122")


if __name__ == "__main__":
    unittest.main()
