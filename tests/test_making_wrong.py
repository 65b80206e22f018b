"""What making raises for arguments that are not valid."""

from tests.samples import BIG, BOXES, GREATEST, NO_BOXES, ODD, RULED_3, UP, Calls
from threevalues import making
from threevalues.boxes import Box
from threevalues.errors import (
    InvalidNumber, InvalidRows, InvalidSteps, InvalidTable, InvalidTables, NotABox, TooMany,
)
from threevalues.making import (
    best_of, brings, common, few_places, helps, made, makes_all, steps, unlike,
)

MAX = "max " + GREATEST
PAIR = Box(MAX, "up 120")
FULL = Box("a 012", "b 012", "c 012", "d 012", "e 012", "f 012")
# Each function with a box as its first argument, with what is valid beside it, and what is not.
BESIDE = {
    "kept": ((), ()), "makes_all": ((), ()), "one_place": ((), ()), "steps": (("120",), ("12",)),
    "made": (((),), ([],)), "few_places": ((2, 60), (3, 61)), "least_lots": ((), ()), "needless": ((), ()),
    "helps": (("120",), ("12",)), "rank": ((), ()), "best_of": ((("120",),), ((),)), "brings": (("a 120",), ("a",)),
    "onto_names": ((), ()),
}
NAMES = {
    "steps": ("table",), "made": ("steps",), "few_places": ("count", "most"), "helps": ("table",),
    "best_of": ("tables",), "brings": ("row",),
}
NO_TABLES = (*ODD, "0123", "0" * 81, "01a", ["012"], ("012",), 120, b"012", "up 120")


class WrongBoxes(Calls):
    def test_first_argument(self):
        for x in (*NO_BOXES, *ODD):
            for name, (valid, wrong) in BESIDE.items():
                function = getattr(making, name)
                for beside in (valid, wrong):
                    self.raised(NotABox, x, function, x, *beside)
                    self.raised(NotABox, x, function, **dict(zip(NAMES.get(name, ()), beside)), box=x)

    def test_one_and_other(self):
        for x in (*NO_BOXES, *ODD):
            for function in (unlike, common):
                self.raised(NotABox, x, function, x, PAIR)
                self.raised(NotABox, x, function, PAIR, x)
                self.raised(NotABox, x, function, other=x, one=PAIR)
                self.raised(NotABox, x, function, x, "up 120")
                self.raised(NotABox, x, function, other="up 120", one=x)


class WrongTables(Calls):
    def test_steps(self):
        for box in (PAIR, Box(), FULL):
            for x in (*NO_TABLES, GREATEST, RULED_3[0], "0" * 9):
                self.raised(InvalidTable, x, steps, box, x)
                self.raised(InvalidTable, x, steps, table=x, box=box)

    def test_helps(self):
        for box in (PAIR, Box(), FULL):
            for x in NO_TABLES:
                self.raised(InvalidTable, x, helps, box, x)
                self.raised(InvalidTable, x, helps, table=x, box=box)

    def test_best_of(self):
        for x in (
            *(x for x in ODD if x != ("012", "120")), (), [], "012", ["012"], [GREATEST, UP], (UP, "12"), ("12", UP),
            (UP, None), (UP, 120), (UP, [UP]), (UP, (UP,)), ((UP,),), (UP, ""), ("up 120",), {UP}, {UP: 0}, 0, None,
            (UP,) * 50 + ("01a",), (GREATEST, "0" * 81),
        ):
            for box in (PAIR, Box(), FULL):
                self.raised(InvalidTables, x, best_of, box, x)
                self.raised(InvalidTables, x, best_of, tables=x, box=box)


class WrongSteps(Calls):
    def test_no_tuples(self):
        for box in (PAIR, Box()):
            for x in (*(x for x in ODD if not isinstance(x, tuple)), [("up", (0,))], {"up": (0,)}, "up", 0, PAIR):
                self.raised_at(InvalidSteps, None, made, box, x)
                self.raised_at(InvalidSteps, None, made, steps=x, box=box)

    def test_steps_that_are_none(self):
        wrong = (
            *ODD, (), ("up",), ("up", (0,), 0), ("up", (0,), ()), ["up", (0,)], "up", ("up", 0), ("up", [0]),
            ("up", ()), ("up", (0, 0)), ("max", (0,)), ("max", (0, 0, 0)), ("max", ()), ("ups", (0,)), ("u", (0,)),
            ("", (0,)), ("UP", (0,)), (0, (0,)), (None, (0,)), (("up",), (0,)), (["up"], (0,)), ("up 120", (0,)),
            ("120", (0,)), ((0,), "up"), ("up", (-1,)), ("up", (True,)), ("up", (False,)), ("max", (0, False)),
            ("up", ("0",)), ("up", "0"), ("up", (None,)), ("up", (BIG,)), ("up", (-BIG,)), ("up", ((0,),)),
            ("up", {0: 0}), {"up": (0,), "max": (0, 0)}, PAIR, ("up", (3,)), ("max", (0, 3)), ("max", (3, 0)),
        )
        for x in wrong:
            self.raised_at(InvalidSteps, 0, made, PAIR, (x,))
            self.raised_at(InvalidSteps, 0, made, steps=(x, x), box=PAIR)
            self.raised_at(InvalidSteps, 0, made, PAIR, (x, ("up", (0,))))
            self.raised_at(InvalidSteps, 2, made, PAIR, (("up", (0,)), ("max", (0, 1)), x))
            self.raised_at(InvalidSteps, 0, made, Box(), (x,))

    def test_indexes_up_to_the_step_itself(self):
        for many in range(5):
            before = (("up", (0,)),) * many
            self.assertEqual(len(made(PAIR, (*before, ("up", (many,))))), many + 2)
            self.raised_at(InvalidSteps, many, made, PAIR, (*before, ("up", (many + 1,))))
            self.raised_at(InvalidSteps, many, made, PAIR, (*before, ("max", (0, many + 1)), ("up", (0,))))
            self.raised_at(InvalidSteps, many, made, PAIR, (*before, ("up", (-1,)), None))

    def test_the_first_that_is_not_valid(self):
        self.raised_at(InvalidSteps, 1, made, PAIR, (("up", (0,)), ("up", (2,)), ("down", (0,))))
        self.raised_at(InvalidSteps, 0, made, Box(), (("up", (0,)),))


class WrongNumbers(Calls):
    def test_count(self):
        for x in (*ODD, 0, 3, 4, 27, "1", "2", (1,), [1], 2 ** 64, -2):
            for box in (PAIR, Box()):
                for most in (60, 0, 61, None):
                    self.raised(InvalidNumber, x, few_places, box, x, most)
                    self.raised(InvalidNumber, x, few_places, most=most, count=x, box=box)

    def test_most(self):
        for x in (*(x for x in ODD if x != 3), 61, 62, 100, -1, "9", (9,), [9]):
            for box in (PAIR, Box()):
                for count in (1, 2):
                    self.raised(InvalidNumber, x, few_places, box, count, x)
                    self.raised(InvalidNumber, x, few_places, most=x, count=count, box=box)

    def test_too_many_comes_last(self):
        self.raised(TooMany, 60, few_places, PAIR, 2, 60)
        self.raised(InvalidNumber, 61, few_places, PAIR, 2, 61)
        self.raised(InvalidNumber, 0, few_places, PAIR, 0, 1)


class WrongRows(Calls):
    def test_brings(self):
        for x in (*ODD, "new", "new 12", "new  120", "new 120\n", "longer 120", "up 120", "up 000", MAX, ("new 120",)):
            self.raised_at(InvalidRows, 2, brings, PAIR, x)
            self.raised_at(InvalidRows, 2, brings, row=x, box=PAIR)
            self.raised_at(InvalidRows, None, brings, FULL, x)
        for x in (None, "up", "up 12"):
            self.raised_at(InvalidRows, 0, brings, Box(), x)

    def test_brings_beside_six_rows(self):
        for box in BOXES:
            if len(box) == 6:
                self.raised_at(InvalidRows, None, brings, box, "new 120")
                self.raised_at(InvalidRows, None, brings, box, None)
        self.assertEqual(len(FULL), 6)
        self.assertIs(makes_all(FULL), False)
        self.assertEqual(brings(FULL.without("f"), "f 120"), ("120", "201"))
