"""What the functions of tables return for valid arguments."""

import inspect
import itertools
import unittest

from tests.samples import (
    GREATEST, LEAST, SWAP, TABLES, TABLES_1, TABLES_2, TABLES_3, UP, arguments_of, looked_up, some_tables,
)
from threevalues import tables
from threevalues.tables import (
    all_tables, counting, digits_of, fixed, is_onto, places, put_together, renamed, turned_round, value,
)

PARAMETERS = {
    "value": ("table", "arguments"), "places": ("table",), "counting": ("table",), "is_onto": ("table",),
    "fixed": ("table",), "digits_of": ("table",), "renamed": ("table", "order"),
    "put_together": ("table", "tables"), "turned_round": ("table", "places_order"), "all_tables": (),
}
ORDERS_3 = list(itertools.permutations((0, 1, 2)))


class Interface(unittest.TestCase):
    def test_names_and_parameters(self):
        for name, told in PARAMETERS.items():
            function = getattr(tables, name)
            self.assertEqual(function.__module__, "threevalues.tables", name)
            parameters = inspect.signature(function).parameters
            self.assertEqual(tuple(parameters), told, name)
            for each in parameters.values():
                self.assertIs(each.kind, inspect.Parameter.POSITIONAL_OR_KEYWORD, name)
                self.assertIs(each.default, inspect.Parameter.empty, name)

    def test_by_position_and_by_name(self):
        self.assertEqual(value(GREATEST, arguments=(1, 2)), 2)
        self.assertEqual(value(arguments=(1, 2), table=GREATEST), 2)
        self.assertEqual(places(table=GREATEST), 2)
        self.assertEqual(counting(table="000111222"), (0,))
        self.assertIs(is_onto(table=LEAST), True)
        self.assertEqual(fixed(table=SWAP), (1,))
        self.assertEqual(digits_of(table=LEAST), (5, 3, 1))
        self.assertEqual(renamed(UP, order=(0, 2, 1)), "201")
        self.assertEqual(renamed(order=(0, 2, 1), table=UP), "201")
        self.assertEqual(put_together(UP, tables=(GREATEST,)), "120220000")
        self.assertEqual(put_together(tables=(GREATEST,), table=UP), "120220000")
        self.assertEqual(turned_round("000111222", places_order=(1, 0)), "012012012")
        self.assertEqual(turned_round(places_order=(1, 0), table="000111222"), "012012012")


class Examples(unittest.TestCase):
    def test_first(self):
        told = [
            value(GREATEST, (1, 2)), value(LEAST, (1, 2)), value(UP, (2,)), places(GREATEST),
            counting("000111222"), is_onto(LEAST), is_onto("000000001"),
            renamed(GREATEST, (2, 1, 0)) == LEAST, renamed(UP, (0, 2, 1)), len(all_tables()),
        ]
        self.assertEqual(repr(told), "[2, 1, 0, 2, (0,), True, False, True, '201', 27]")

    def test_second(self):
        told = [
            put_together(GREATEST, ("012", "120")), put_together(UP, (GREATEST,)),
            turned_round("000111222", (1, 0)),
            put_together(GREATEST, ("000111222", "012012012")) == GREATEST,
            fixed(GREATEST), fixed("210"), digits_of(LEAST),
        ]
        self.assertEqual(repr(told), "['122', '120220000', '012012012', True, (0, 1, 2), (1,), (5, 3, 1)]")


class Values(unittest.TestCase):
    def test_at_all_arguments(self):
        for table in TABLES:
            for at, arguments in enumerate(arguments_of(places(table))):
                got = value(table, arguments)
                self.assertIs(type(got), int)
                self.assertEqual(got, int(table[at]))

    def test_first_argument_weighs_most(self):
        table = "0" * 5 + "1" + "0" * 3
        self.assertEqual([value(table, (1, 2)), value(table, (2, 1))], [1, 0])
        table = "0" * 15 + "2" + "0" * 11
        self.assertEqual([value(table, (1, 2, 0)), value(table, (0, 2, 1))], [2, 0])

    def test_plain_table_gives_back(self):
        self.assertEqual([value("012", (x,)) for x in (0, 1, 2)], [0, 1, 2])


class Places(unittest.TestCase):
    def test_one_two_and_three(self):
        self.assertEqual({places(table) for table in TABLES_1}, {1})
        self.assertEqual({places(table) for table in TABLES_2}, {2})
        self.assertEqual({places(table) for table in TABLES_3}, {3})
        self.assertIs(type(places("012")), int)

    def test_counting_of_some(self):
        told = {
            "012": (0,), "000": (), "001": (0,), GREATEST: (0, 1), "000111222": (0,), "012012012": (1,),
            "222222222": (), "012" * 9: (2,), "0" * 9 + "1" * 9 + "2" * 9: (0,), "000111222" * 3: (1,),
            "0" * 26 + "1": (0, 1, 2), "1" * 27: (), "001001001" * 3: (2,),
            "0" * 9 + GREATEST + "0" * 9: (0, 1, 2), GREATEST * 3: (1, 2), "000000001": (0, 1),
            "000" * 3 + "012" * 3 + "000" * 3: (0, 2), "000000000" * 2 + "000111222": (0, 1),
        }
        for table, each in told.items():
            self.assertEqual(counting(table), each, table)
            self.assertIs(type(counting(table)), tuple)

    def test_counting_as_defined(self):
        for table in [*TABLES, *some_tables(1, 20), *some_tables(2, 40), *some_tables(3, 20)]:
            self.assertEqual(counting(table), self.slowly(table), table)
        for table in some_tables(2, 8):
            for order in itertools.permutations((0, 1, 2)):
                wide = "".join(str(looked_up(table, [row[k] for k in order[:2]])) for row in arguments_of(3))
                self.assertEqual(counting(wide), self.slowly(wide), wide)

    def slowly(self, table):
        many = places(table)
        pairs = list(itertools.product(arguments_of(many), repeat=2))
        found = []
        for k in range(many):
            alike = [(a, b) for a, b in pairs if a[:k] == b[:k] and a[k + 1:] == b[k + 1:]]
            if any(looked_up(table, a) != looked_up(table, b) for a, b in alike):
                found.append(k)
        return tuple(found)

    def test_counting_finds_each_lone_entry(self):
        for at in range(27):
            self.assertEqual(counting("1" * at + "2" + "1" * (26 - at)), (0, 1, 2))


class Digits(unittest.TestCase):
    def test_is_onto(self):
        for table in [*TABLES, *some_tables(1, 20), *some_tables(2, 20)]:
            self.assertIs(is_onto(table), set(table) == set("012"), table)
        self.assertEqual([is_onto(x) for x in ("112", "002", "010", "201")], [False, False, False, True])

    def test_digits_of(self):
        for table in [*TABLES, *some_tables(3, 9)]:
            got = digits_of(table)
            self.assertIs(type(got), tuple)
            self.assertEqual(got, tuple(sum(sign == x for sign in table) for x in "012"))
            self.assertEqual(sum(got), len(table))
        self.assertEqual(digits_of("0" * 26 + "2"), (26, 0, 1))

    def test_fixed(self):
        told = {"012": (0, 1, 2), UP: (), "000": (0,), "222": (2,), "021": (0,), "112": (1, 2), "0" * 27: (0,)}
        for table, each in told.items():
            self.assertEqual(fixed(table), each)
        for table in [*TABLES, *some_tables(2, 30), *some_tables(3, 30)]:
            got = fixed(table)
            self.assertIs(type(got), tuple)
            many = places(table)
            self.assertEqual(got, tuple(a for a in (0, 1, 2) if looked_up(table, (a,) * many) == a))

    def test_all_tables(self):
        got = all_tables()
        self.assertIs(type(got), tuple)
        self.assertEqual(got, tuple(sorted("".join(signs) for signs in itertools.product("012", repeat=3))))
        self.assertEqual((got[0], got[5], got[-1]), ("000", "012", "222"))


class Made(unittest.TestCase):
    def test_renamed_as_defined(self):
        for table in [*TABLES, *some_tables(2, 6), *some_tables(3, 3)]:
            for order in ORDERS_3:
                got = renamed(table, order)
                self.assertEqual(len(got), len(table))
                for arguments in arguments_of(places(table)):
                    moved = tuple(order[x] for x in arguments)
                    self.assertEqual(looked_up(got, moved), order[looked_up(table, arguments)])

    def test_renamed_by_the_plain_order(self):
        for table in TABLES:
            self.assertEqual(renamed(table, (0, 1, 2)), table)

    def test_renamed_by_a_round_is_not_the_round_gone_back(self):
        self.assertEqual([renamed("001", (1, 2, 0)), renamed("001", (2, 0, 1))], ["211", "202"])

    def test_put_together_as_defined(self):
        lots = {1: TABLES_1, 2: TABLES_2, 3: TABLES_3}
        for table in TABLES:
            for count, lot in lots.items():
                many = places(table)
                for row in list(itertools.product(lot, repeat=many))[::11 if many == 3 else 1]:
                    self.check_put_together(table, row, count)

    def check_put_together(self, table, row, count):
        got = put_together(table, row)
        self.assertEqual(len(got), 3 ** count)
        for arguments in arguments_of(count):
            inner = [looked_up(x, arguments) for x in row]
            self.assertEqual(looked_up(got, arguments), looked_up(table, inner))

    def test_put_together_of_unlike_sizes(self):
        self.assertEqual(put_together(TABLES_3[3], ("012", "120", "201")), "000")
        self.assertEqual(put_together(TABLES_3[3], ("012", "012", "012")), "000")
        self.assertEqual(put_together(TABLES_3[3], ("012", "000", "000")), "012")
        self.assertEqual(put_together("120", (TABLES_3[0],)), "120" * 9)
        first, second, third = TABLES_3[1], "000111222" * 3, TABLES_3[0]
        for table in TABLES_3:
            self.assertEqual(put_together(table, (first, second, third)), table)

    def test_put_together_takes_the_tables_in_order(self):
        self.assertEqual(put_together("000111222", ("120", "012")), "120")
        self.assertEqual(put_together("012012012", ("120", "012")), "012")

    def test_turned_round_as_defined(self):
        for table in [*TABLES, *some_tables(2, 6), *some_tables(3, 3)]:
            many = places(table)
            for order in itertools.permutations(range(many)):
                got = turned_round(table, order)
                self.assertEqual(len(got), len(table))
                for arguments in arguments_of(many):
                    at = tuple(arguments[k] for k in order)
                    self.assertEqual(looked_up(got, arguments), looked_up(table, at))

    def test_turned_round_by_a_round_of_three(self):
        first, second, third = TABLES_3[1], "000111222" * 3, TABLES_3[0]
        self.assertEqual([turned_round(x, (1, 2, 0)) for x in (first, second, third)], [second, third, first])
        self.assertEqual([turned_round(x, (2, 0, 1)) for x in (first, second, third)], [third, first, second])
        self.assertEqual(turned_round("120", (0,)), "120")

    def test_tables_are_strings(self):
        for got in (renamed(UP, (0, 2, 1)), put_together(UP, (UP,)), turned_round(UP, (0,)), all_tables()[0]):
            self.assertIs(type(got), str)

    def test_equal_calls_return_equal_results(self):
        for _ in range(2):
            self.assertEqual(put_together(UP, (UP,)), "201")
            self.assertEqual(renamed(GREATEST, (2, 1, 0)), LEAST)
            self.assertEqual(len(all_tables()), 27)


if __name__ == "__main__":
    unittest.main()
