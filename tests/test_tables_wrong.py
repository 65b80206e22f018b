"""What the functions of tables raise for arguments that are not valid."""

import unittest

from tests.samples import BIG, GREATEST, ODD, TABLES, TABLES_3, UP, Calls
from threevalues import tables
from threevalues.errors import InvalidArguments, InvalidOrder, InvalidTable, InvalidTables

# Each function with a table, and what is valid beside the table 120.
BESIDE = {
    "value": ("arguments", (0,)), "places": None, "counting": None, "is_onto": None, "fixed": None,
    "digits_of": None, "renamed": ("order", (0, 1, 2)), "put_together": ("tables", ("012",)),
    "turned_round": ("places_order", (0,)),
}
# What is raised for what is wrong beside a table.
RAISED = {
    "value": InvalidArguments, "renamed": InvalidOrder, "put_together": InvalidTables,
    "turned_round": InvalidOrder,
}
NO_TABLES = (
    "", "0", "01", "0120", "01201", "01201201", "0120120120", "0" * 26, "0" * 28, "0" * 81, "1" * 2000,
    "013", "01/", "01a", "01-", "01 ", " 12", "01\n", "\n12", "0.2", "1_0", "+10", "01201201x", "0" * 26 + "3",
    "\u0660\u0661\u0662", "01\u00b2", b"012", b"0" * 9, 12, 120, 0, BIG, 10 ** 26, ("012",), ("0", "1", "2"),
    (0, 1, 2), ["0", "1", "2"], [0, 1, 2], ["012"], {"0": 0, "1": 1, "2": 2}, {"0", "1", "2"},
)


class WrongTables(Calls):
    def test_each_function(self):
        for name, beside in BESIDE.items():
            function = getattr(tables, name)
            for x in (*ODD, *NO_TABLES):
                if beside is None:
                    self.raised(InvalidTable, x, function, x)
                    self.raised(InvalidTable, x, function, table=x)
                else:
                    self.raised(InvalidTable, x, function, x, beside[1])
                    self.raised(InvalidTable, x, function, table=x, **{beside[0]: beside[1]})

    def test_the_table_is_looked_at_first(self):
        for name, beside in BESIDE.items():
            if beside is None:
                continue
            function = getattr(tables, name)
            for x in ("0121", None, [1], True):
                for y in ODD:
                    self.raised(InvalidTable, x, function, x, y)
                    self.raised(InvalidTable, x, function, **{beside[0]: y, "table": x})

    def test_lengths(self):
        for length in range(90):
            table = "0" * length
            if length in (3, 9, 27):
                self.assertEqual(3 ** tables.places(table), length)
            else:
                self.raised(InvalidTable, table, tables.places, table)

    def test_signs_beside_the_digits_at_each_index(self):
        for length in (3, 9, 27):
            for at in range(length):
                for sign in "3/9-a ":
                    table = "0" * at + sign + "0" * (length - at - 1)
                    self.raised(InvalidTable, table, tables.is_onto, table)


class WrongBeside(Calls):
    def test_none_of_the_kinds(self):
        for name, kind in RAISED.items():
            function = getattr(tables, name)
            word = BESIDE[name][0]
            for table in TABLES:
                for x in ODD:
                    self.raised(kind, x, function, table, x)
                    self.raised(kind, x, function, table=table, **{word: x})

    def test_arguments(self):
        wrong = {
            UP: (
                (), (0, 0), (0, 0, 0), (3,), (-1,), (-3,), (True,), (False,), ("0",), (None,), ((0,),), (BIG,),
                0, "0", [0], {0: 0}, {0}, range(1), (0, True),
            ),
            GREATEST: (
                (), (0,), (0, 0, 0), (0, 3), (3, 0), (-1, 0), (0, -1), (1, -1), (True, 0), (0, True), (0, False),
                [0, 0], [1, 2], "00", (0, "0"), (0, None), (0, (0,)), (BIG, 0), (0, -BIG), ((0, 0),), (0, [0]),
            ),
            TABLES_3[3]: (
                (0, 0), (0, 0, 0, 0), (0,), (), (0, 0, 3), (3, 0, 0), (0, -1, 0), (True, 0, 0), (0, 0, True),
                [0, 0, 0], "000", (0, 1, [2]), (0, 1, BIG),
            ),
        }
        for table, lot in wrong.items():
            for x in lot:
                self.raised(InvalidArguments, x, tables.value, table, x)
                self.raised(InvalidArguments, x, tables.value, table=table, arguments=x)

    def test_orders_of_the_values(self):
        wrong = (
            (), (0,), (0, 1), (1, 0), (0, 1, 2, 3), (0, 1, 2, 2), (0, 0, 1), (0, 1, 1), (2, 2, 2), (1, 2, 3),
            (-1, 0, 1), (0, 1, -1), (0, True, 2), (False, 1, 2), (False, True, 2), (True, 0, 2), [0, 1, 2],
            "012", ("0", "1", "2"), (0, 1, None), (0, 1, "2"), (0, 1, BIG), (0, 1, -BIG), ((0, 1, 2),),
            (0, 1, (2,)), (0, 1, [2]), {0: 0, 1: 1, 2: 2}, {0, 1, 2}, range(3), None, 12, BIG,
        )
        for table in (UP, GREATEST, TABLES_3[3]):
            for x in wrong:
                self.raised(InvalidOrder, x, tables.renamed, table, x)
                self.raised(InvalidOrder, x, tables.renamed, table=table, order=x)

    def test_orders_of_the_places(self):
        wrong = {
            UP: ((), (1,), (-1,), (0, 0), (0, 1), (0, 1, 2), (False,), [0], "0", 0, ("0",), (None,), (BIG,)),
            GREATEST: (
                (), (0,), (0, 0), (1, 1), (0, 2), (1, 2), (0, -1), (-1, 0), (-2, -1), (0, 1, 2), (1, 0, 0),
                (0, True), (False, 1), (True, False), [0, 1], [1, 0], "01", (0, "1"), (0, None), (1, BIG),
                (0, [1]), ((0, 1),),
            ),
            TABLES_3[3]: (
                (0, 1), (1, 0), (0, 1, 1), (0, 0, 0), (0, 1, 3), (1, 2, 3), (0, 1, -1), (0, 1, 2, 3), (0, True, 2),
                (2, 1, False), [0, 1, 2], "012", (0, 1, "2"), (0, 1, -BIG),
            ),
        }
        for table, lot in wrong.items():
            for x in lot:
                self.raised(InvalidOrder, x, tables.turned_round, table, x)
                self.raised(InvalidOrder, x, tables.turned_round, table=table, places_order=x)

    def test_tables_to_put_in(self):
        three = TABLES_3[3]
        wrong = {
            UP: (
                (), ("012", "012"), ("012",) * 3, ["012"], "012", ("0120",), ("013",), (None,), (12,), (True,),
                (["012"],), (("012",),), ("",), {"012": "012"}, {"012"}, (BIG,), ((0, 1, 2),), (b"012",), ("0" * 81,),
            ),
            GREATEST: (
                (), ("012",), ("012",) * 3, ["012", "012"], ("012", GREATEST), (GREATEST, "012"),
                (GREATEST, three), (three, GREATEST), ("012", "01"), ("01", "012"), ("01", "01"), ("012", "013"),
                ("013", "012"), ("012", 12), (0, 1), ("012", None), ("012", ["012"]), (("012", "012"),), "01",
                "012012012", (GREATEST, GREATEST[:-1]), ("0120", "0120"), ("", ""), ("012", True),
            ),
            three: (
                (), ("012",), ("012", "012"), ("012",) * 4, ("012", "012", GREATEST), ("012", GREATEST, "012"),
                (GREATEST, "012", "012"), (GREATEST, GREATEST, three), ["012"] * 3, "012", ("0", "1", "2"),
                (0, 1, 2), ("012", "012", "01x"), ("012", "012", None), (three, three, three + "0"),
            ),
        }
        for table, lot in wrong.items():
            for x in lot:
                self.raised(InvalidTables, x, tables.put_together, table, x)
                self.raised(InvalidTables, x, tables.put_together, table=table, tables=x)


if __name__ == "__main__":
    unittest.main()
