"""What a Box is, and what it tells, for valid arguments."""

import inspect
import itertools
import unittest

from tests.samples import BOXES, GREATEST, LEAST, NO_BOXES, ODD, RULED_3, UP, Calls
from threevalues import boxes
from threevalues.boxes import Box
from threevalues.errors import InvalidRows
from threevalues.tables import renamed

MAX = "max " + GREATEST
METHODS = {
    "table_of": ("name",), "with_row": ("index", "row"), "plus": ("row",), "part": ("lot",), "without": ("name",),
    "renamed": ("order",),
}
PROPERTIES = ("rows", "text", "names", "tables")
SIX = ("a 012", "bb " + GREATEST, "ccc " + RULED_3[0], "dddd 000", "zz 222", "xyzw " + LEAST)
ORDERS = list(itertools.permutations((0, 1, 2)))


class Interface(Calls):
    def test_all_stands_in_the_class(self):
        self.assertEqual(Box.__module__, "threevalues.boxes")
        self.assertEqual(Box.__bases__, (object,))
        for name in (*METHODS, *PROPERTIES, "read", "__init__", "__len__", "__eq__", "__str__", "__repr__"):
            self.assertIn(name, vars(Box))
        for name in PROPERTIES:
            self.assertIsInstance(vars(Box)[name], property)
        self.assertIsInstance(vars(Box)["read"], classmethod)
        self.assertIs(inspect.getmodule(boxes.Box), boxes)

    def test_parameters(self):
        self.parameters(Box.read, ("text",))
        for name, told in METHODS.items():
            self.parameters(getattr(Box, name), ("self", *told))
        rows = list(inspect.signature(Box).parameters.values())
        self.assertEqual([(x.name, x.kind) for x in rows], [("rows", inspect.Parameter.VAR_POSITIONAL)])

    def test_by_position_and_by_name(self):
        box = Box(MAX, "up 120")
        self.assertEqual(self.all_orders(Box.read, {"text": box.text}), box)
        self.assertEqual(self.all_orders(box.table_of, {"name": "up"}), "120")
        self.assertEqual(self.all_orders(box.with_row, {"index": 0, "row": "a 000"}), Box("a 000", "up 120"))
        self.assertEqual(self.all_orders(box.plus, {"row": "a 000"}), Box(MAX, "up 120", "a 000"))
        self.assertEqual(self.all_orders(box.part, {"lot": (1,)}), Box("up 120"))
        self.assertEqual(self.all_orders(box.without, {"name": "max"}), Box("up 120"))
        self.assertEqual(self.all_orders(box.renamed, {"order": (2, 1, 0)}), Box("max " + LEAST, "up 201"))


class Examples(unittest.TestCase):
    def test_first(self):
        pair, webb, two = Box(MAX, "up 120"), Box("webb 120220000"), Box(MAX, "swap 210")
        got = [
            pair.names, pair.tables[1], len(pair), repr(webb), pair.part((1,)).rows, pair.without("up").names,
            two.renamed((2, 1, 0)).table_of("max"), Box.read("") == Box(), Box().plus("up 120").text,
        ]
        self.assertEqual(
            got,
            [("max", "up"), "120", 2, "Box of 1 tables", ("up 120",), ("max",), "000011012", True, "up 120"],
        )

    def test_second(self):
        with self.assertRaises(InvalidRows) as caught:
            Box(MAX, "min 000011013")
        self.assertEqual(caught.exception.index, 1)


class Properties(unittest.TestCase):
    def test_none_to_six_rows(self):
        for count in range(7):
            box = Box(*SIX[:count])
            self.assertEqual(box.rows, SIX[:count])
            self.assertEqual(box.names, ("a", "bb", "ccc", "dddd", "zz", "xyzw")[:count])
            self.assertEqual(box.tables, ("012", GREATEST, RULED_3[0], "000", "222", LEAST)[:count])
            self.assertEqual(box.text, "\n".join(SIX[:count]))
            self.assertEqual(len(box), count)
            self.assertEqual(str(box), box.text)
            self.assertEqual(repr(box), f"Box of {count} tables")
            self.assertEqual([type(x) for x in (box.rows, box.names, box.tables)], [tuple] * 3)

    def test_a_box_is_always_true(self):
        for box in BOXES:
            self.assertIs(bool(box), True)
        self.assertEqual(len(Box()), 0)
        self.assertIs(bool(Box()), True)

    def test_box_without_rows(self):
        box = Box()
        self.assertEqual((box.rows, box.names, box.tables, box.text, str(box)), ((), (), (), "", ""))
        self.assertEqual(repr(box), "Box of 0 tables")

    def test_edges_of_names(self):
        for name in ("a", "z", "az", "zzz", "abcd", "zzzz", "set", "all"):
            self.assertEqual(Box(name + " 012").names, (name,))
        self.assertEqual(Box("a 012", "aa 012", "aaa 012", "aaaa 012").names, ("a", "aa", "aaa", "aaaa"))

    def test_properties_are_not_assigned(self):
        box = Box(MAX)
        for name in PROPERTIES:
            with self.assertRaises(AttributeError):
                setattr(box, name, ())


class Reading(unittest.TestCase):
    def test_each_text(self):
        for box in BOXES:
            got = Box.read(box.text)
            self.assertIs(type(got), Box)
            self.assertEqual(got, box)
            self.assertEqual(got.rows, box.rows)
            self.assertEqual(got.text, box.text)

    def test_empty_string(self):
        self.assertEqual(Box.read("").rows, ())

    def test_six_rows(self):
        self.assertEqual(Box.read("\n".join(SIX)).rows, SIX)


class Methods(unittest.TestCase):
    def test_table_of(self):
        for box in BOXES:
            for name, table in zip(box.names, box.tables):
                self.assertEqual(box.table_of(name), table)

    def test_with_row(self):
        box = Box(*SIX)
        for at in range(6):
            got = box.with_row(at, "new 111")
            self.assertEqual(got.rows, SIX[:at] + ("new 111",) + SIX[at + 1:])
            self.assertEqual(box.with_row(index=at, row=SIX[at]), box)
        self.assertEqual(box.with_row(0, "a 111").rows[0], "a 111")
        self.assertEqual(Box("a 012").with_row(0, "b 120"), Box("b 120"))

    def test_plus(self):
        box = Box()
        for count, row in enumerate(SIX):
            self.assertEqual(box.rows, SIX[:count])
            box = box.plus(row)
        self.assertEqual(box.rows, SIX)

    def test_part(self):
        box = Box(*SIX)
        for count in range(7):
            for lot in itertools.combinations(range(6), count):
                self.assertEqual(box.part(lot).rows, tuple(SIX[k] for k in lot))
        self.assertEqual(Box().part(()), Box())

    def test_without(self):
        box = Box(*SIX)
        for at, name in enumerate(box.names):
            self.assertEqual(box.without(name).rows, SIX[:at] + SIX[at + 1:])
        self.assertEqual(Box("a 012").without("a"), Box())

    def test_renamed(self):
        for box in BOXES:
            for order in ORDERS:
                got = box.renamed(order)
                self.assertEqual(got.names, box.names)
                self.assertEqual(got.tables, tuple(renamed(table, order) for table in box.tables))
        self.assertEqual(Box("a 001").renamed((1, 2, 0)).rows, ("a 211",))

    def test_they_return_boxes_and_leave_the_box_as_it_was(self):
        for box in BOXES[1:-3]:
            rows, name = box.rows, box.names[0]
            made = (
                box.with_row(0, "q 111"), box.plus("q 111"), box.part(()), box.without(name),
                box.renamed((1, 2, 0)), Box.read(box.text),
            )
            self.assertEqual({type(x) for x in made}, {Box})
            self.assertTrue(all(x is not box for x in made))
            self.assertEqual(box.table_of(name), rows[0].split()[1])
            self.assertEqual((box.rows, len(box), box.text), (rows, len(rows), "\n".join(rows)))


class Equality(unittest.TestCase):
    def test_equal_boxes(self):
        for box in BOXES:
            for other in (Box(*box.rows), Box.read(box.text), box.part(tuple(range(len(box))))):
                self.assertIs(box == other, True)
                self.assertIs(box != other, False)

    def test_unlike_boxes(self):
        for one, other in itertools.combinations(BOXES, 2):
            self.assertIs(one == other, False)
            self.assertIs(one != other, True)
        for other in (Box("up 120", MAX), Box(MAX, "ups 120"), Box(MAX, "up 201"), Box(MAX), Box()):
            self.assertIs(Box(MAX, "up 120") == other, False)
            self.assertIs(Box(MAX, "up 120") != other, True)

    def test_values_of_other_classes(self):
        class Like:
            rows = _rows = ("up 120",)

        box = Box("up 120")
        for x in (*NO_BOXES, *ODD, box.rows, box.text, list(box.rows), Like(), 1, UP):
            self.assertIs(box == x, False)
            self.assertIs(x == box, False)
            self.assertIs(box != x, True)
            self.assertIs(x != box, True)
            self.assertIs(Box() == x, False)


if __name__ == "__main__":
    unittest.main()
