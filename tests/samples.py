"""Values that several tests pass: tables, and what is none of the kinds of the document."""

GREATEST, LEAST, UP, SWAP = "012112222", "000011012", "120", "210"

# Of one, two and three places, with places that count and others that do not.
TABLES_1 = ("012", "000", "111", "120", "210", "001")
TABLES_2 = (GREATEST, LEAST, "000111222", "012012012", "120220000", "222222222")
TABLES_3 = (
    "012" * 9,
    "0" * 9 + "1" * 9 + "2" * 9,
    "0" * 26 + "1",
    "012120201120201012201012120",
    "000111222" * 3,
)
TABLES = TABLES_1 + TABLES_2 + TABLES_3

BIG = 10 ** 39

# None of these is a table, an integer from 0 to 2, a tuple of these, or of tables.
ODD = (
    None, True, False, -1, 3, BIG, -BIG, "", "0", "01", "0120", "a", "x" * 2000, "012\n", "12 ", "013",
    b"012", [], {}, set(), object(), len, (None,), (True,), (False,), (-1,), (3,), (BIG,), (-BIG,), ("0",),
    ("01",), ((),), ([],), ([0, 1, 2],), ((0, 1, 2),), [0], [0, 1], [0, 1, 2], ["012"], ["012", "120"],
    (0, 1, None), (0, 1, "2"), (0, (1, (2, [3, (4, [5, (None,)])]))), [[[[[[[[[[]]]]]]]]]], (((((((((),),),),),),),),),
    ("012", None), ("012", ["012"]), (("012",), ("012",)),
)


def arguments_of(count):
    """All arguments for so many places, ascending, told without the program."""
    rows = [()]
    for _ in range(count):
        rows = [row + (x,) for row in rows for x in (0, 1, 2)]
    return rows


def looked_up(table, arguments):
    """The value of a table at arguments, told without the program."""
    return int(dict(zip(arguments_of(len(arguments)), table))[tuple(arguments)])
