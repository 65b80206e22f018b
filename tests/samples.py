"""Values that several tests pass: tables, boxes, and what is none of the kinds of the document."""

import inspect
import itertools
import random
import unittest

from threevalues.boxes import Box

GREATEST, LEAST, UP, SWAP = "012112222", "000011012", "120", "210"

# Of one, two and three places, with places that count and others that do not.
TABLES_1 = ("012", "000", "111", "120", "210", "001")
TABLES_2 = (GREATEST, LEAST, "000111222", "012012012", "120220000", "222222222")
TABLES_3 = (
    "012" * 9,
    "0" * 9 + "1" * 9 + "2" * 9,
    "0" * 26 + "1",
    "012120201120201012201012120",
    "000111222" * 3,
)
TABLES = TABLES_1 + TABLES_2 + TABLES_3

BIG = 10 ** 39

# None of these is a table, an integer from 0 to 2, a tuple of these, or of tables.
ODD = (
    None, True, False, -1, 3, BIG, -BIG, "", "0", "01", "0120", "a", "x" * 2000, "012\n", "12 ", "013",
    b"012", [], {}, set(), object(), len, (None,), (True,), (False,), (-1,), (3,), (BIG,), (-BIG,), ("0",),
    ("01",), ((),), ([],), ([0, 1, 2],), ((0, 1, 2),), [0], [0, 1], [0, 1, 2], ["012"], ["012", "120"],
    (0, 1, None), (0, 1, "2"), (0, (1, (2, [3, (4, [5, (None,)])]))), [[[[[[[[[[]]]]]]]]]], (((((((((),),),),),),),),),
    ("012", None), ("012", ["012"]), (("012",), ("012",)),
)


def arguments_of(count):
    """All arguments for so many places, ascending, told without the program."""
    rows = [()]
    for _ in range(count):
        rows = [row + (x,) for row in rows for x in (0, 1, 2)]
    return rows


def looked_up(table, arguments):
    """The value of a table at arguments, told without the program."""
    return int(dict(zip(arguments_of(len(arguments)), table))[tuple(arguments)])


def some_tables(count, many):
    """So many tables of so many places, the same ones at each run."""
    draw = random.Random(3 ** count + many)
    return ["".join(draw.choice("012") for _ in range(3 ** count)) for _ in range(many)]


def entries(table):
    """The values of a table by their arguments, told without the program."""
    count = {3: 1, 9: 2, 27: 3}[len(table)]
    return {row: int(sign) for row, sign in zip(arguments_of(count), table)}


def inner(told, rows):
    """What a table with these entries makes from rows, one for each place, told without the program."""
    return tuple(told[arguments] for arguments in zip(*rows))


def table_from(count, rule):
    """The table of so many places whose values are told by a rule over the arguments."""
    return "".join(str(rule(*arguments) % 3) for arguments in arguments_of(count))


# Tables of three places, with a rule each: sums, chains, centres, one place alone, not onto.
RULED_3 = tuple(table_from(3, rule) for rule in (
    lambda x, y, z: x + y + z, lambda x, y, z: x + 2 * y + 1, lambda x, y, z: 2 * z + 2, max, min,
    lambda x, y, z: max(min(x, y), min(y, z), min(x, z)), lambda x, y, z: (2, 0, 1)[y], lambda x, y, z: (1, 1, 0)[z],
    lambda x, y, z: min(1, x * y + z), lambda x, y, z: 2 if x == y == z == 2 else 0,
    lambda x, y, z: x if x == y else z, lambda x, y, z: x if x == y == z else 1, lambda x, y, z: max(x, y),
    lambda x, y, z: min(y, z) if x else y, lambda x, y, z: x * y * z, lambda x, y, z: x * y + z,
    lambda x, y, z: 2 - max(x, y, z), lambda x, y, z: 2 * max(x, y, z) + 1, lambda x, y, z: 1,
))
# The same of two places.
RULED_2 = tuple(table_from(2, rule) for rule in (
    max, min, lambda x, y: x + y, lambda x, y: 2 * x + 2 * y, lambda x, y: x + 2 * y + 1, lambda x, y: (1, 2, 0)[x],
    lambda x, y: (0, 0, 1)[y], lambda x, y: x if x == y else 0, lambda x, y: x if x == y else 1,
    lambda x, y: x if x == y else 2, lambda x, y: x * y, lambda x, y: x * x * y, lambda x, y: max(x, y) + 1,
    lambda x, y: 2 if x == y else 1, lambda x, y: 2 * x if x == y else 2, lambda x, y: x if y else 0,
    lambda x, y: 2 - min(x, y), lambda x, y: (x, y).count(2), lambda x, y: (1, 0, 2)[max((1, 0, 2)[x], (1, 0, 2)[y])],
))

# Boxes without rows, with tables of one place alone, with wider ones; some make all, some do not.
BOXES = (
    Box(),
    Box("id 012"),
    Box("up 120"),
    Box("up 120", "swap 210"),
    Box("up 120", "swap 210", "low 001"),
    Box("one 111", "two 222"),
    Box("max " + GREATEST),
    Box("max " + GREATEST, "min " + LEAST),
    Box("max " + GREATEST, "up 120"),
    Box("max " + GREATEST, "swap 210"),
    Box("webb 120220000"),
    Box("one 111", "sum " + table_from(2, lambda x, y: x + y)),
    Box("turn 120", "maj " + RULED_3[10]),
    Box("maj " + RULED_3[5], "a 000", "b 111", "c 222"),
    Box("last 012012012", "all 222222222"),
    Box("mul " + RULED_3[15], "one 111"),
    Box("w " + RULED_3[11], "x " + RULED_3[8], "y 010", "z " + RULED_3[6]),
    Box("a 000", "b 011", "c 112", "d " + LEAST, "e 200", "f " + GREATEST),
    Box("a 120", "b 021", "c " + RULED_3[0], "d 201", "e 102", "f 012012012"),
    Box("a " + GREATEST, "b " + LEAST, "c " + RULED_3[5], "d 002", "e 022", "f 012"),
)

# None of these is a Box.
NO_BOXES = (None, True, 0, 7, "", "up 120", ("up 120",), ["up 120"], (), {}, Box, len, b"up 120", object(), (BOXES[2],))


class Calls(unittest.TestCase):
    """What tests of several modules ask of calls."""

    def parameters(self, function, told):
        """That the function has just these parameters, each by position and by name."""
        each = inspect.signature(function).parameters
        self.assertEqual(tuple(each), tuple(told), function)
        for one in each.values():
            self.assertIs(one.kind, inspect.Parameter.POSITIONAL_OR_KEYWORD, function)
            self.assertIs(one.default, inspect.Parameter.empty, function)

    def raised(self, kind, given, function, /, *passed, **named):
        """That the call raises just this kind of error with this very value, which it leaves as it is."""
        before = repr((passed, named))
        with self.assertRaises(kind) as caught:
            function(*passed, **named)
        self.assertIs(type(caught.exception), kind)
        self.assertIs(caught.exception.given, given)
        self.assertEqual(repr((passed, named)), before)

    def raised_at(self, kind, index, function, /, *passed, **named):
        """That the call raises just this kind of error with this index."""
        before = repr((passed, named))
        with self.assertRaises(kind) as caught:
            function(*passed, **named)
        self.assertIs(type(caught.exception), kind)
        self.assertIs(type(caught.exception.index), type(index))
        self.assertEqual(caught.exception.index, index)
        self.assertEqual(repr((passed, named)), before)

    def all_orders(self, function, named):
        """That the call by position returns what the calls by name in any order do; it is returned."""
        got = function(*named.values())
        for words in itertools.permutations(named):
            self.assertEqual(function(**{word: named[word] for word in words}), got)
        return got
