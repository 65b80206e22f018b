"""What making tells for valid arguments."""

import functools
import itertools
import math
import unittest

from tests.samples import (
    BOXES, GREATEST, LEAST, RULED_2, RULED_3, SWAP, UP, Calls, entries, inner, some_tables, table_from,
)
from threevalues import making
from threevalues.boxes import Box
from threevalues.errors import TooMany
from threevalues.making import (
    best_of, brings, common, few_places, helps, kept, least_lots, made, makes_all, needless, one_place, onto_names,
    rank, steps, unlike,
)
from threevalues.relations import WORDS, keeps

PARAMETERS = {
    "kept": ("box",), "makes_all": ("box",), "one_place": ("box",), "steps": ("box", "table"),
    "made": ("box", "steps"), "few_places": ("box", "count", "most"), "least_lots": ("box",), "needless": ("box",),
    "helps": ("box", "table"), "rank": ("box",), "best_of": ("box", "tables"), "unlike": ("one", "other"),
    "common": ("one", "other"), "brings": ("box", "row"), "onto_names": ("box",),
}
ALL_1 = ["".join(signs) for signs in itertools.product("012", repeat=3)]
MAX = "max " + GREATEST
PAIR, WEBB, TWO = Box(MAX, "up 120"), Box("webb 120220000"), Box(MAX, "swap 210")
# Three ways to make all with two rows, two with one, and a row that is in none of them.
LOTS = Box(MAX, "up 120", "webb 120220000", "min " + LEAST, "id 012", "w " + RULED_3[0])
# Boxes of one to three tables of two places, and some with tables of one place beside them.
DRAWN = tuple(
    Box(*[f"{name} {table}" for name, table in zip("abc", tables)])
    for tables in [
        *itertools.combinations(RULED_2[::2], 2), *[(table,) for table in (*RULED_2, *some_tables(2, 40))],
        *zip(RULED_2, some_tables(1, 19)), *zip(RULED_2, some_tables(1, 19), some_tables(1, 20)),
    ]
)
FIRST, SECOND = "000111222", "012012012"


@functools.cache
def grown(tables, starts, most):
    """The rows of values that tables make of the starts, by rounds of all of them; ends beyond `most`."""
    told = [(round(math.log(len(table), 3)), entries(table)) for table in tables]
    found, last = set(starts), set(starts)
    while last and len(found) <= most:
        rows = sorted(found)
        new = {
            inner(each, lot) for many, each in told for lot in itertools.product(rows, repeat=many)
            if not last.isdisjoint(lot)
        }
        last = new - found
        found |= last
    return found


def plainly_made(box):
    """The ascending list of the tables of one place that a box makes, told without the program."""
    return sorted("".join(map(str, row)) for row in grown(box.tables, ((0, 1, 2),), 26))


def plainly_kept(box):
    return tuple(word for word in WORDS if all(keeps(table, word) for table in box.tables))


class Interface(Calls):
    def test_names_and_parameters(self):
        for name, told in PARAMETERS.items():
            self.parameters(getattr(making, name), told)
            self.assertEqual(getattr(making, name).__module__, "threevalues.making")

    def test_by_position_and_by_name(self):
        self.assertEqual(self.all_orders(kept, {"box": TWO}), ("set 1", "set 02", "centre 1"))
        self.assertIs(self.all_orders(makes_all, {"box": PAIR}), True)
        self.assertEqual(self.all_orders(one_place, {"box": TWO}), ("010", "012", "210", "212"))
        self.assertEqual(self.all_orders(steps, {"box": TWO, "table": "012"}), ())
        self.assertEqual(self.all_orders(made, {"box": TWO, "steps": (("swap", (0,)),)}), ("012", "210"))
        self.assertEqual(self.all_orders(few_places, {"box": Box(), "count": 2, "most": 2}), (FIRST, SECOND))
        self.assertEqual(self.all_orders(least_lots, {"box": PAIR}), ((0, 1),))
        self.assertEqual(self.all_orders(needless, {"box": PAIR}), ())
        self.assertEqual(self.all_orders(helps, {"box": TWO, "table": UP}), ("set 1", "set 02", "centre 1"))
        self.assertEqual(self.all_orders(rank, {"box": TWO}), 15)
        self.assertEqual(self.all_orders(best_of, {"box": TWO, "tables": ("111", UP)}), 1)
        self.assertEqual(self.all_orders(unlike, {"one": TWO, "other": PAIR}), "set 1")
        self.assertEqual(self.all_orders(common, {"one": TWO, "other": Box()}), ("012",))
        self.assertEqual(self.all_orders(brings, {"box": Box(), "row": "up 120"}), ("120", "201"))
        self.assertEqual(self.all_orders(onto_names, {"box": TWO}), ("max",))


class Examples(unittest.TestCase):
    def test_first(self):
        got = [
            makes_all(PAIR), makes_all(WEBB), makes_all(TWO), kept(TWO), one_place(TWO), len(one_place(WEBB)),
            kept(Box("up 120", "swap 210")),
        ]
        self.assertEqual(got, [
            True, True, False, ("set 1", "set 02", "centre 1"), ("010", "012", "210", "212"), 27, ("sums", "mixed"),
        ])

    def test_second(self):
        got = [
            made(PAIR, (("up", (0,)), ("max", (0, 1)))), steps(TWO, "201"), steps(TWO, "012"),
            few_places(Box(MAX), 2, 9), helps(TWO, UP), unlike(PAIR, WEBB), onto_names(TWO),
        ]
        self.assertEqual(got, [
            ("012", "120", "122"), None, (), (FIRST, SECOND, GREATEST), ("set 1", "set 02", "centre 1"), None,
            ("max",),
        ])

    def test_third(self):
        got = [
            least_lots(Box(MAX, "up 120", "webb 120220000", "min " + LEAST)), needless(Box("up 120", "down 201")),
            unlike(TWO, PAIR), unlike(Box("up 120"), Box("down 201")),
        ]
        self.assertEqual(got, [((2,), (0, 1), (1, 3)), (0, 1), "set 1", None])

    def test_fourth(self):
        got = [
            common(TWO, Box("low 010", "up 120")), brings(Box(MAX), "swap 210"), brings(PAIR, "one 111"),
            len(common(PAIR, WEBB)), rank(TWO), best_of(TWO, ("111", "102", UP)),
        ]
        self.assertEqual(got, [("010", "012", "212"), ("010", "210", "212"), (), 27, 15, 1])


class Kept(unittest.TestCase):
    def test_kept(self):
        for box in (*BOXES, *DRAWN):
            got = kept(box)
            self.assertIs(type(got), tuple)
            self.assertEqual(got, plainly_kept(box))
            self.assertIs(makes_all(box), got == ())
            self.assertIs(type(rank(box)), int)
            self.assertEqual(rank(box), 18 - len(got))

    def test_box_without_rows(self):
        self.assertEqual(kept(Box()), WORDS)
        self.assertEqual(rank(Box()), 0)
        self.assertIs(makes_all(Box()), False)

    def test_tables_of_one_place_never_make_all(self):
        box = Box("up 120", "swap 210", "low 001")
        self.assertEqual(kept(box), ("mixed",))
        self.assertEqual(len(one_place(box)), 27)
        self.assertIs(makes_all(box), False)

    def test_exactly_when_all_is_made(self):
        seen = set()
        for box in (*BOXES, *DRAWN):
            told = len(plainly_made(box)) == 27 and len(onto_names(box)) > 0
            self.assertIs(makes_all(box), told, box.rows)
            seen.add(told)
        self.assertEqual(seen, {True, False})

    def test_onto_names(self):
        for box, names in (
            (Box(), ()), (TWO, ("max",)), (Box("up 120"), ()), (Box("a 012012012", "b 000111222"), ()),
            (Box("a " + "0" * 8 + "1", "b " + "0" * 7 + "12"), ("b",)),
            (Box("c " + GREATEST * 3, MAX), ("c", "max")),
            (Box("b " + LEAST, "z " + "0" * 26 + "1", "a " + RULED_3[0], "c " + "012" * 9), ("b", "a")),
            (Box("a " + "0" * 25 + "12", "b " + "0" * 9 + "1" * 9 + "2" * 9), ("a",)),
        ):
            self.assertEqual(onto_names(box), names)


class OnePlace(unittest.TestCase):
    def test_one_place(self):
        for box in (*BOXES, *DRAWN):
            got = one_place(box)
            self.assertIs(type(got), tuple)
            self.assertEqual(got, tuple(plainly_made(box)), box.rows)

    def test_box_without_rows(self):
        self.assertEqual(one_place(Box()), ("012",))
        self.assertEqual(steps(Box(), "012"), ())
        self.assertIsNone(steps(Box(), "120"))
        self.assertEqual(made(Box(), ()), ("012",))

    def test_made_of_told_steps_ends_with_the_asked_table(self):
        for box in (*BOXES, *DRAWN):
            able = plainly_made(box)
            for table in ALL_1:
                told = steps(box, table)
                if table not in able:
                    self.assertIsNone(told)
                    continue
                self.assertIs(type(told), tuple)
                got = made(box, told)
                self.assertEqual(len(got), len(told) + 1)
                self.assertEqual(got[-1], table)
                self.assertEqual(told == (), table == "012")
                self.assertEqual(steps(box, table), told)

    def test_made_step_by_step(self):
        box = Box(MAX, "up 120", "maj " + RULED_3[10], "last " + RULED_3[2])
        told = (
            ("up", (0,)), ("up", (1,)), ("max", (2, 1)), ("maj", (0, 0, 1)), ("maj", (0, 1, 2)), ("last", (2, 1, 0)),
            ("up", (0,)), ("max", (7, 6)),
        )
        found = [(0, 1, 2)]
        for name, indexes in told:
            found.append(inner(entries(box.table_of(name)), [found[k] for k in indexes]))
        got = made(box, told)
        self.assertIs(type(got), tuple)
        self.assertEqual(got, tuple("".join(map(str, row)) for row in found))
        self.assertEqual(got[:3], ("012", "120", "201"))
        for count in range(len(told) + 1):
            self.assertEqual(made(box, told[:count]), got[:count + 1])

    def test_order_of_places(self):
        box = Box("a 000111222", "b 012012012", "up 120")
        self.assertEqual(made(box, (("up", (0,)), ("a", (0, 1)), ("b", (0, 1)))), ("012", "120", "012", "120"))


class FewPlaces(Calls):
    def check(self, box, count):
        starts = ((0, 1, 2),) if count == 1 else (tuple(map(int, FIRST)), tuple(map(int, SECOND)))
        found = sorted("".join(map(str, row)) for row in grown(box.tables, starts, 60))
        if len(found) > 60:
            for most in (0, 7, 59, 60):
                self.raised(TooMany, most, few_places, box, count, most)
            return 61
        for most in {len(found), 60}:
            got = few_places(box, count, most)
            self.assertIs(type(got), tuple)
            self.assertEqual(got, tuple(found))
        for most in {0, len(found) - 1}:
            self.raised(TooMany, most, few_places, box, count, most)
        return len(found)

    def test_one_place(self):
        for box in (*BOXES, *DRAWN):
            self.assertEqual(self.check(box, 1), len(one_place(box)))

    def test_two_places(self):
        numbers = {self.check(box, 2) for box in (*BOXES, *DRAWN[::3])}
        self.assertTrue({2, 3, 4, 61} <= numbers, numbers)

    def test_many_but_not_too_many(self):
        # All sums of multiples of two arguments, without a number and with one; then what never falls.
        self.assertEqual(self.check(Box("a " + table_from(2, lambda x, y: x + y)), 2), 9)
        self.assertEqual(self.check(Box("a " + table_from(2, lambda x, y: x + y), "b 120"), 2), 27)
        self.assertEqual(self.check(Box(MAX, "min " + LEAST, "a 000", "b 111", "c 222"), 2), 20)

    def test_at_all_bounds(self):
        self.assertEqual(few_places(Box(MAX), 2, 3), (FIRST, SECOND, GREATEST))
        self.raised(TooMany, 2, few_places, Box(MAX), 2, 2)
        self.assertEqual(few_places(Box(), 1, 1), ("012",))
        self.assertEqual(few_places(Box(), 2, 2), (FIRST, SECOND))
        for count in (1, 2):
            self.raised(TooMany, 0, few_places, Box(), count, 0)
        self.raised(TooMany, 1, few_places, Box(), 2, 1)
        self.assertEqual(few_places(WEBB, 1, 27), tuple(ALL_1))
        self.assertEqual(few_places(WEBB, 1, 60), tuple(ALL_1))
        self.raised(TooMany, 26, few_places, WEBB, 1, 26)
        self.raised(TooMany, 60, few_places, WEBB, 2, 60)


class Lots(unittest.TestCase):
    def plain_lots(self, box):
        """All least lots that make all, by a look at all lots."""
        every = [lot for size in range(len(box) + 1) for lot in itertools.combinations(range(len(box)), size)]
        able = [lot for lot in every if plainly_kept(box.part(lot)) == ()]
        return tuple(lot for lot in able if not any(set(other) < set(lot) for other in able))

    def test_least_lots(self):
        for box in (*BOXES, *DRAWN, LOTS):
            got = least_lots(box)
            self.assertIs(type(got), tuple)
            self.assertEqual(got, self.plain_lots(box))
            self.assertEqual(got == (), not makes_all(box))

    def test_least_lots_of_six_rows(self):
        self.assertEqual(least_lots(LOTS)[:2], ((2,), (0, 1)))
        lot = Box("a 120", "b 201", "c " + GREATEST, "d " + LEAST, "e 120220000", "f 021110210")
        self.assertEqual(least_lots(lot), self.plain_lots(lot))
        self.assertTrue({len(each) for each in least_lots(lot)} >= {1, 2})
        self.assertEqual(least_lots(Box()), ())

    def test_least_lots_of_three_rows_and_four(self):
        box = Box("a 011111112", "b 022", "c 200", "d 102", "e 111", "f 101")
        self.assertEqual(least_lots(box), ((0, 1, 5), (0, 2, 3), (0, 2, 5), (0, 1, 3, 4)))
        self.assertEqual(least_lots(box), self.plain_lots(box))

    def test_needless(self):
        for box in (*BOXES, *DRAWN, LOTS):
            got = needless(box)
            self.assertIs(type(got), tuple)
            told = [k for k, name in enumerate(box.names) if plainly_kept(box.without(name)) == plainly_kept(box)]
            self.assertEqual(got, tuple(told))
        self.assertEqual(needless(Box()), ())
        self.assertEqual(needless(Box("id 012")), (0,))
        self.assertEqual(needless(Box("up 120")), ())
        self.assertEqual(needless(LOTS), (0, 1, 2, 3, 4, 5))


class Comparing(unittest.TestCase):
    def test_helps(self):
        for box in BOXES:
            for table in (UP, SWAP, "012", "111", *RULED_2, *RULED_3):
                got = helps(box, table)
                self.assertIs(type(got), tuple)
                self.assertEqual(got, tuple(word for word in plainly_kept(box) if not keeps(table, word)))
        self.assertEqual(helps(Box(), "012"), ())
        self.assertEqual(helps(PAIR, "111"), ())

    def test_best_of(self):
        rows = ("012", "111", UP, SWAP, GREATEST, RULED_3[0], "120220000", RULED_3[15])
        for box in BOXES:
            words = plainly_kept(box)
            left = {table: sum(keeps(table, word) for word in words) for table in rows}
            for size, step in ((1, 1), (2, 3), (3, 37)):
                for tables in list(itertools.product(rows, repeat=size))[::step]:
                    told = [left[table] for table in tables]
                    self.assertEqual(best_of(box, tables), told.index(min(told)))

    def test_best_of_at_its_edges(self):
        self.assertEqual(best_of(Box(), ("012",)), 0)
        self.assertEqual(best_of(Box(), ("012", "012", UP, UP)), 2)
        self.assertEqual(best_of(PAIR, ("012", "120220000")), 0)
        self.assertEqual(best_of(TWO, ("111", "102", UP)), 1)
        six = Box("a 120", "b 201", "c 012", "d 021", "e 102", "f 210")
        self.assertEqual(best_of(six, ("000", RULED_3[0], GREATEST, "120220000")), 2)
        self.assertEqual(best_of(six, ("012", "120", "021") * 40), 0)

    def test_unlike(self):
        boxes = [(box, plainly_kept(box), plainly_made(box)) for box in (*BOXES, *DRAWN[::25])]
        for (one, words, tables), (other, other_words, other_tables) in itertools.product(boxes, repeat=2):
            differ = [word for word in WORDS if (word in words) != (word in other_words)]
            differ += sorted(set(tables) ^ set(other_tables))
            self.assertEqual(unlike(one, other), differ[0] if differ else None)

    def test_unlike_by_a_table_alone(self):
        # Both keep just the same words, though the one box makes more tables of one place.
        one, other = self.pair_alike_in_words()
        got = unlike(one, other)
        self.assertIn(got, ALL_1)
        self.assertEqual(got, min(set(one_place(one)) ^ set(one_place(other))))
        self.assertEqual(unlike(other, one), got)

    def pair_alike_in_words(self):
        for one, other in itertools.combinations([Box("a " + x, "b " + y) for x in ALL_1 for y in ALL_1], 2):
            if kept(one) == kept(other) and one_place(one) != one_place(other):
                return one, other

    def test_unlike_tells_none(self):
        for box in BOXES:
            self.assertIsNone(unlike(box, box))
            self.assertIsNone(unlike(box, Box(*box.rows[::-1])))
        self.assertIsNone(unlike(PAIR, WEBB))

    def test_common(self):
        boxes = [(box, set(plainly_made(box))) for box in BOXES]
        for (one, tables), (other, other_tables) in itertools.product(boxes, repeat=2):
            got = common(one, other)
            self.assertIs(type(got), tuple)
            self.assertEqual(got, tuple(sorted(tables & other_tables)))
        self.assertEqual(common(Box(), WEBB), ("012",))

    def test_brings(self):
        for box in BOXES:
            if len(box) == 6:
                continue
            for table in ("012", "111", UP, SWAP, "010", GREATEST, LEAST, RULED_3[0], RULED_3[14]):
                got = brings(box, "new " + table)
                self.assertIs(type(got), tuple)
                told = set(plainly_made(Box(*box.rows, "new " + table))) - set(plainly_made(box))
                self.assertEqual(got, tuple(sorted(told)))
        self.assertEqual(brings(Box(), "id 012"), ())
        self.assertEqual(brings(Box(), "webb 120220000"), tuple(x for x in ALL_1 if x != "012"))


class Unchanged(unittest.TestCase):
    def test_no_call_changes_a_box(self):
        for box in BOXES:
            rows = box.rows
            for name, told in PARAMETERS.items():
                values = {
                    "box": box, "one": box, "other": WEBB, "table": UP, "steps": (), "count": 1, "most": 60,
                    "tables": (UP, SWAP), "row": "new 111",
                }
                if len(box) < 6 or name != "brings":
                    function = getattr(making, name)
                    passed = [values[word] for word in told]
                    self.assertEqual(function(*passed), function(*passed))
            self.assertEqual((box.rows, len(box)), (rows, len(rows)))


if __name__ == "__main__":
    unittest.main()
