"""What the checker accepts, and that it accepts nothing else."""

import itertools
import unittest

from tests.samples import (
    BIG, BOXES, GREATEST, LEAST, NO_BOXES, ODD, RULED_2, RULED_3, TABLES, UP, Calls, entries, inner, some_tables,
)
from threevalues import checker
from threevalues.boxes import Box
from threevalues.certificates import certify_box, certify_made, certify_table
from threevalues.checker import accepts
from threevalues.making import kept, made, makes_all, one_place, onto_names, steps
from threevalues.relations import WORDS, keeps, leads_out, relation

MAX = "max " + GREATEST
PAIR, WEBB, TWO = Box(MAX, "up 120"), Box("webb 120220000"), Box(MAX, "swap 210")
# Both of its wide tables are onto, and two places of each count.
BOTH = Box(MAX, "min " + LEAST, "up 120")
# The first table is not onto; one place alone of the second one counts; the third one does.
NAMES = Box("a 000000001", "b 012012012", "webb 120220000", "up 120")
ALL_1 = ["".join(signs) for signs in itertools.product("012", repeat=3)]
MANY_PLACES = {3: 1, 9: 2, 27: 3}


def is_int(x):
    return type(x) is int


def plain_box(text):
    """The names and tables of a box with this text, told without the program; None if it is none."""
    if type(text) is not str:
        return None
    rows = [row.split(" ") for row in text.split("\n")] if text else []
    if len(rows) > 6 or any(len(row) != 2 for row in rows) or len({row[0] for row in rows}) < len(rows):
        return None
    for name, table in rows:
        if not (1 <= len(name) <= 4 and set(name) <= set("abcdefghijklmnopqrstuvwxyz") and plain_table(table)):
            return None
    return dict(rows)


def plain_table(x):
    return type(x) is str and len(x) in MANY_PLACES and set(x) <= set("012")


def plain_made(tables, certificate):
    """The set of the tables that steps make, told without the program; None if they are none."""
    if type(certificate) is not tuple:
        return None
    found = [(0, 1, 2)]
    for step in certificate:
        if type(step) is not tuple or len(step) != 2 or type(step[0]) is not str or step[0] not in tables:
            return None
        table, indexes = tables[step[0]], step[1]
        if type(indexes) is not tuple or len(indexes) != MANY_PLACES[len(table)]:
            return None
        if any(not is_int(k) or k < 0 or k >= len(found) for k in indexes):
            return None
        found.append(inner(entries(table), [found[k] for k in indexes]))
    return {"".join(map(str, row)) for row in found}


def hangs_on_two(table):
    """Whether a table is onto and has two places that count, told without the program."""
    told = entries(table)
    count = MANY_PLACES[len(table)]
    counting = [
        place for place in range(count)
        if any(told[row] != told[(*row[:place], x, *row[place + 1:])] for row in told for x in (0, 1, 2))
    ]
    return set(table) == set("012") and len(counting) > 1


def plainly(claim, certificate):
    """Whether a claim and a certificate are such as the document says, told without the program."""
    if type(claim) is not tuple or len(claim) not in (3, 4) or type(claim[0]) is not str:
        return False
    if claim[0] == "out":
        return len(claim) == 4 and plainly_out(*claim[1:]) and type(certificate) is tuple and certificate == ()
    if len(claim) != 3 or type(claim[2]) is not str:
        return False
    tables = plain_box(claim[1])
    if tables is None:
        return False
    if claim[0] == "kept":
        held = claim[2] in WORDS and all(keeps(table, claim[2]) for table in tables.values())
        return held and type(certificate) is tuple and certificate == ()
    found = plain_made(tables, certificate)
    if claim[0] == "all":
        return found is not None and len(found) == 27 and claim[2] in tables and hangs_on_two(tables[claim[2]])
    return claim[0] == "made" and found is not None and claim[2] in found


def plainly_out(table, word, rows):
    if not plain_table(table) or type(word) is not str or word not in WORDS or type(rows) is not tuple:
        return False
    if len(rows) != MANY_PLACES[len(table)]:
        return False
    if not all(type(row) is tuple and all(is_int(x) for x in row) and row in relation(word) for row in rows):
        return False
    return inner(entries(table), rows) not in relation(word)


def bent(value):
    """Values that are this one but for a part: lists, parts more and less, other parts, numbers, texts."""
    yield from (None, [], (), {}, set(), "", 0, 1, True, False, b"", object(), [value], (value,), (value, value))
    if isinstance(value, tuple):
        yield from (list(value), value[::-1], value + (0,), value + ((),), value[:-1], value[1:], value * 2)
        for at in range(min(len(value), 4)):
            for other in bent(value[at]):
                yield (*value[:at], other, *value[at + 1:])
    if isinstance(value, str):
        yield from (
            value + "\n", "\n" + value, value + " ", " " + value, value[:-1], value[1:], value.upper(), value + value,
            value.replace("\n", "\r\n"), value.replace(" ", "  "), value.replace("1", "3"), value.encode(), [value],
            list(value), tuple(value), value.replace("0", "2"), value.swapcase(),
        )
    if isinstance(value, int):
        yield from (bool(value), -value, value - 1, value + 1, value + 3, value - 27, BIG, -BIG, str(value), (value,))


# Pairs of a right claim and a right certificate, of all four words.
RIGHT = (
    (("all", PAIR.text, "max"), certify_box(PAIR)[1]),
    (("all", WEBB.text, "webb"), certify_box(WEBB)[1]),
    (("all", BOTH.text, "min"), certify_box(BOTH)[1]),
    (("all", NAMES.text, "webb"), certify_box(NAMES)[1]),
    (("kept", TWO.text, "set 1"), ()), (("kept", TWO.text, "centre 1"), ()), (("kept", "", "mixed"), ()),
    (("kept", "up 120", "turn"), ()), (("kept", "s " + RULED_3[0], "sums"), ()),
    (("out", UP, "set 1", ((1,),)), ()), (("out", GREATEST, "part 1", ((0, 2), (1, 1))), ()),
    (("out", "120220000", "turn", ((0, 1), (2, 0))), ()), (("out", LEAST, "mixed", leads_out(LEAST, "mixed")), ()),
    (("out", RULED_3[15], "sums", leads_out(RULED_3[15], "sums")), ()),
    (("made", TWO.text, "212"), (("swap", (0,)), ("max", (0, 1)))), (("made", TWO.text, "210"), (("swap", (0,)),)),
    (("made", PAIR.text, "012"), ()), (("made", "", "012"), ()), (("made", WEBB.text, "111"), steps(WEBB, "111")),
    (("made", "maj " + RULED_3[10] + "\nup 120", "201"), (("up", (0,)), ("maj", (0, 0, 1)), ("up", (1,)))),
)


class Checks(Calls):
    def told(self, claim, certificate, answer):
        """That the checker answers so, and leaves what it is passed as it is."""
        before = repr((claim, certificate))
        self.assertIs(accepts(claim, certificate), answer, (claim, certificate))
        self.assertEqual(repr((claim, certificate)), before)


class Interface(Checks):
    def test_name_and_parameters(self):
        self.parameters(checker.accepts, ("claim", "certificate"))
        self.assertEqual(accepts.__module__, "threevalues.checker")
        self.assertIs(self.all_orders(accepts, {"claim": ("kept", "", "turn"), "certificate": ()}), True)
        self.assertIs(self.all_orders(accepts, {"claim": ("kept", "", "turn"), "certificate": 0}), False)

    def test_example(self):
        got = [
            accepts(*certify_box(PAIR)), accepts(("made", TWO.text, "212"), (("swap", (0,)), ("max", (0, 1)))),
            accepts(("made", TWO.text, "212"), ()), accepts(("kept", TWO.text, "turn"), ()),
            accepts(("out", GREATEST, "part 1", ((0, 2), (1, 1))), ()),
        ]
        self.assertEqual(got, [True, True, False, False, True])


class Right(Checks):
    def test_claims_of_all_four_words(self):
        for claim, certificate in RIGHT:
            self.assertTrue(plainly(claim, certificate), claim)
            self.told(claim, certificate, True)

    def test_all_by_each_name(self):
        for name in BOTH.names:
            self.told(("all", BOTH.text, name), certify_box(BOTH)[1], name != "up")
        for name in (*NAMES.names, "max", "", "web"):
            self.told(("all", NAMES.text, name), certify_box(NAMES)[1], name == "webb")

    def test_all_needs_every_table(self):
        told = certify_box(PAIR)[1]
        for many in range(len(told)):
            self.told(("all", PAIR.text, "max"), told[:many], len(made(PAIR, told[:many])) == 27)
            self.told(("all", PAIR.text, "max"), told[many:], many == 0)
        # One table more than once, and other steps behind the last one needed.
        self.told(("all", PAIR.text, "max"), told + told, True)
        later = tuple((name, tuple(k + 3 if k else 0 for k in indexes)) for name, indexes in told)
        self.told(("all", PAIR.text, "max"), (("up", (0,)),) * 3 + later, True)

    def test_all_of_one_place_do_not_do_without_an_onto_table(self):
        box = Box("up 120", "swap 210", "low 001", "a 000000001", "b 012012012")
        found = ["012"]
        told = []
        while len(found) < 27:
            for name, index in itertools.product(box.names[:3], range(len(found))):
                table = made(box, (*told, (name, (index,))))[-1]
                if table not in found:
                    found.append(table)
                    told.append((name, (index,)))
        for name in box.names:
            self.told(("all", box.text, name), tuple(told), False)
        more = Box(*box.rows, MAX)
        self.told(("all", more.text, "max"), tuple(told), True)
        self.told(("all", more.text, "b"), tuple(told), False)
        self.assertFalse(makes_all(box))
        self.assertTrue(makes_all(more))

    def test_kept(self):
        for box in BOXES:
            words = kept(box)
            for word in WORDS:
                self.told(("kept", box.text, word), (), word in words)

    def test_out(self):
        for table in (*TABLES[:12], *RULED_2[:8]):
            for word in ("set 1", "set 02", "part 1", "turn", "chain 1", "centre 2"):
                rows_allowed = relation(word)
                for rows in itertools.product(rows_allowed, repeat=MANY_PLACES[len(table)]):
                    self.told(("out", table, word, rows), (), inner(entries(table), rows) not in rows_allowed)

    def test_out_of_rows_that_are_none_of_the_relation(self):
        for word in ("set 1", "part 1", "turn", "chain 1"):
            size = len(relation(word)[0])
            for rows in itertools.product(itertools.product((0, 1, 2), repeat=size), repeat=2):
                told = all(row in relation(word) for row in rows)
                self.told(
                    ("out", GREATEST, word, rows), (), told and inner(entries(GREATEST), rows) not in relation(word),
                )

    def test_made(self):
        told = (("swap", (0,)), ("max", (0, 1)), ("max", (1, 0)), ("swap", (2,)))
        for many in range(5):
            tables = made(TWO, told[:many])
            for table in ALL_1:
                self.told(("made", TWO.text, table), told[:many], table in tables)

    def test_made_of_tables_of_more_places(self):
        for table in (GREATEST, "000111222", RULED_3[0], LEAST):
            self.told(("made", BOTH.text, table), (), False)
            self.told(("made", BOTH.text, table), certify_box(BOTH)[1], False)

    def test_the_text_of_a_box(self):
        self.told(("kept", "", "set 0"), (), True)
        self.told(("made", "", "012"), (), True)
        six = "\n".join(f"{name} 012" for name in "abcdef")
        for text, right in (
            (six, True), (six + "\ng 012", False), ("up 120\n", False), ("\nup 120", False), ("up  120", False),
            ("up 120\nup 120", False), ("up 120\nup 012", False), ("a 012\nb 012", True), ("a 012\n\nb 012", False),
            ("a 012, b 012", False), ("abcd 012", True), ("abcde 012", False), ("A 012", False), ("a 0120", False),
            ("a 013", False), ("012", False), (" ", False), ("\n", False), ("a 012\r\nb 012", False), ("?", False),
        ):
            self.told(("kept", text, "mixed"), (), right)
            self.told(("made", text, "012"), (), right)


class Bent(Checks):
    def test_each_part_bent(self):
        answers = {True: 0, False: 0}
        for claim, certificate in RIGHT:
            for other in bent(claim):
                told = plainly(other, certificate)
                self.told(other, certificate, told)
                answers[told] += 1
            for other in bent(certificate):
                told = plainly(claim, other)
                self.told(claim, other, told)
                answers[told] += 1
        self.assertGreater(answers[False], 3000)
        self.assertGreater(answers[True], 20)

    def test_every_claim_with_every_certificate(self):
        certificates = list({repr(certificate): certificate for _, certificate in RIGHT}.values())
        for (claim, _), certificate in itertools.product(RIGHT, certificates):
            self.told(claim, certificate, plainly(claim, certificate))

    def test_values_of_any_kind(self):
        for x in (*ODD, *NO_BOXES, BIG, PAIR, "all", ("all",), ("all", PAIR.text), RIGHT, {"all": PAIR.text}):
            self.told(x, (), False)
            self.told(x, x, False)
            for claim, certificate in RIGHT[::2]:
                self.told(claim, x, plainly(claim, x))
                self.told(x, certificate, False)
                for at in range(len(claim)):
                    other = (*claim[:at], x, *claim[at + 1:])
                    self.told(other, certificate, plainly(other, certificate))

    def test_true_in_the_place_of_1(self):
        self.told(("out", UP, "set 1", ((1,),)), (), True)
        for row in ((True,), [1], (1, 1), ("1",), 1, (), ((1,),), (-2,), (4,), (2,)):
            self.told(("out", UP, "set 1", (row,)), (), False)
        self.told(("out", GREATEST, "part 1", ((0, 2), (True, 1))), (), False)
        self.told(("out", GREATEST, "part 1", ((False, 2), (1, 1))), (), False)
        self.told(("made", TWO.text, "212"), (("swap", (False,)), ("max", (0, 1))), False)
        self.told(("made", TWO.text, "212"), (("swap", (0,)), ("max", (0, True))), False)

    def test_indexes(self):
        for k in range(-3, 4):
            self.told(("made", TWO.text, "210"), (("swap", (0,)), ("max", (1, k))), k in (0, 1))
            self.told(("made", TWO.text, "210"), (("swap", (0,)), ("swap", (k,)), ("max", (0, 0))), k in (0, 1))

    def test_certificates_that_are_not_empty(self):
        for claim in (("kept", "", "turn"), ("out", UP, "set 1", ((1,),))):
            for certificate in ([], None, False, 0, "", {}, ((),), (("up", (0,)),), (0,), b"", set(), range(0), Box()):
                self.told(claim, certificate, False)
            self.told(claim, (), True)

    def test_steps_behind_the_asked_table_are_looked_at_too(self):
        told = (("swap", (0,)),)
        for more in (("up", (0,)), ("swap", (2,)), ("swap", ()), None, ("max", (0,)), ["swap", (0,)]):
            self.told(("made", TWO.text, "210"), (*told, more), False)
        self.told(("made", TWO.text, "210"), (*told, ("swap", (1,))), True)


class Truth(Checks):
    def test_what_is_accepted_is_true(self):
        for table in (*ALL_1[::3], *some_tables(2, 30)):
            box = Box("a " + table)
            claim, certificate = certify_box(box)
            self.told(("all", box.text, "a"), certificate, makes_all(box))
            self.told(claim, certificate, True)
            for word in WORDS:
                self.told(("kept", box.text, word), (), keeps(table, word))
                rows = leads_out(table, word)
                self.told(("out", table, word, rows), (), rows is not None)
                self.assertEqual(certify_table(table, word) is None, rows is None)

    def test_steps_of_another_box(self):
        for box, other in itertools.product((PAIR, WEBB, TWO, BOTH, NAMES), repeat=2):
            told = certify_box(other)[1]
            for name in onto_names(box):
                self.told(("all", box.text, name), told, plainly(("all", box.text, name), told))
            for table in one_place(other)[::5]:
                told = certify_made(other, table)[1]
                self.told(("made", box.text, table), told, plainly(("made", box.text, table), told))


if __name__ == "__main__":
    unittest.main()
