"""What is certified, and what certifying raises."""

import itertools
import unittest

from tests.samples import BOXES, GREATEST, LEAST, NO_BOXES, ODD, RULED_2, RULED_3, TABLES, UP, Calls
from tests.test_making_wrong import NO_TABLES
from tests.test_sheets_wrong import NO_WORDS
from threevalues import certificates
from threevalues.boxes import Box
from threevalues.certificates import certify_box, certify_made, certify_table
from threevalues.checker import accepts
from threevalues.errors import InvalidTable, InvalidWord, NotABox
from threevalues.making import kept, made, makes_all, one_place, onto_names
from threevalues.relations import WORDS, keeps, relation

PARAMETERS = {"certify_box": ("box",), "certify_table": ("table", "word"), "certify_made": ("box", "table")}
ALL_1 = tuple("".join(signs) for signs in itertools.product("012", repeat=3))
MAX = "max " + GREATEST
PAIR, WEBB, TWO = Box(MAX, "up 120"), Box("webb 120220000"), Box(MAX, "swap 210")
# Boxes of the document's examples, boxes of six rows that make all and that do not, onto tables behind others.
MORE = (
    PAIR, WEBB, TWO, Box(MAX), Box("up 120", "down 201"), Box(MAX, "up 120", "webb 120220000", "min " + LEAST),
    Box("low 010", "up 120"), Box("a 000000001", "b 012012012", "c 222", "d 120", "e " + LEAST, "f " + GREATEST),
    Box("a 120", "b 201", "c 012", "d 021", "e 102", "f 210"), Box("a 012", "b 120", "c 111", "d " + RULED_3[15]),
    Box("a 012", "b 111", "c 000", "d 222", "e " + GREATEST, "f " + LEAST),
)


class Interface(Calls):
    def test_names_and_parameters(self):
        for name, told in PARAMETERS.items():
            self.parameters(getattr(certificates, name), told)
            self.assertEqual(getattr(certificates, name).__module__, "threevalues.certificates")

    def test_by_position_and_by_name(self):
        self.assertEqual(self.all_orders(certify_box, {"box": TWO}), (("kept", TWO.text, "set 1"), ()))
        told = (("out", UP, "set 0", ((0,),)), ())
        self.assertEqual(self.all_orders(certify_table, {"table": UP, "word": "set 0"}), told)
        told = (("made", TWO.text, "210"), (("swap", (0,)),))
        self.assertEqual(self.all_orders(certify_made, {"box": TWO, "table": "210"}), told)

    def test_example(self):
        got = [
            certify_box(PAIR)[0][::2], certify_box(TWO), certify_table(UP, "set 0"), certify_made(TWO, "012"),
            certify_made(TWO, "111"),
        ]
        text = "max 012112222\nswap 210"
        self.assertEqual(got, [
            ("all", "max"), (("kept", text, "set 1"), ()), (("out", "120", "set 0", ((0,),)), ()),
            (("made", text, "012"), ()), None,
        ])


class Certified(Calls):
    def check(self, told):
        """That this is a pair of a claim and a certificate, which the checker accepts."""
        self.assertEqual([type(x) for x in (told, *told)], [tuple, tuple, tuple])
        self.assertEqual(len(told), 2)
        self.assertIs(accepts(*told), True, told)
        self.assertIs(accepts(told[1], told[0]), False)

    def test_boxes(self):
        seen = set()
        for box in (*BOXES, *MORE):
            claim, certificate = certify_box(box)
            self.check((claim, certificate))
            if makes_all(box):
                self.assertEqual(claim, ("all", box.text, onto_names(box)[0]))
                self.assertEqual(set(made(box, certificate)), set(ALL_1))
            else:
                self.assertEqual((claim, certificate), (("kept", box.text, kept(box)[0]), ()))
            self.assertEqual(certify_box(box), (claim, certificate))
            seen.add((claim[0], len(box) in (0, 6)))
        self.assertEqual(len(seen), 4)
        self.assertEqual(certify_box(Box()), (("kept", "", "set 0"), ()))

    def test_the_first_of_the_onto_names(self):
        for rows in itertools.permutations((MAX, "up 120", "min " + LEAST, "a 000000001", "b 012012012")):
            box = Box(*rows)
            told = certify_box(box)
            self.assertEqual(told[0], ("all", "\n".join(rows), onto_names(box)[0]))
            self.assertIn(told[0][2], ("max", "min"))
        for name in ("max", "min"):
            self.assertEqual(certify_box(Box("up 120", "c 012012012", f"{name} {GREATEST}"))[0][2], name)

    def test_tables(self):
        seen = set()
        for table in (*ALL_1, *RULED_2, *RULED_3, *TABLES):
            for word in WORDS:
                told = certify_table(table, word)
                self.assertIs(told is None, keeps(table, word))
                seen.add((word, told is None))
                if told is not None:
                    self.check(told)
                    self.assertEqual(told[0][:3], ("out", table, word))
                    self.assertEqual(told[1], ())
                    self.assertTrue(all(row in relation(word) for row in told[0][3]))
                    self.assertEqual(certify_table(table, word), told)
        self.assertEqual(len(seen), 36)

    def test_made(self):
        for box in (*BOXES, *MORE):
            able = one_place(box)
            for table in ALL_1:
                told = certify_made(box, table)
                self.assertIs(told is None, table not in able)
                if told is not None:
                    self.check(told)
                    self.assertEqual(told[0], ("made", box.text, table))
                    self.assertIn(table, made(box, told[1]))
                    self.assertEqual(certify_made(box, table), told)

    def test_boxes_without_rows(self):
        self.assertEqual(certify_made(Box(), "012"), (("made", "", "012"), ()))
        self.assertIsNone(certify_made(Box(), "120"))


class Wrong(Calls):
    def test_boxes(self):
        for x in (*NO_BOXES, *ODD):
            self.raised(NotABox, x, certify_box, x)
            self.raised(NotABox, x, certify_box, box=x)
            for table in (UP, GREATEST, None):
                self.raised(NotABox, x, certify_made, x, table)
                self.raised(NotABox, x, certify_made, table=table, box=x)

    def test_tables_of_one_place(self):
        for x in (*NO_TABLES, GREATEST, LEAST, RULED_3[0]):
            for box in (PAIR, Box()):
                self.raised(InvalidTable, x, certify_made, box, x)
                self.raised(InvalidTable, x, certify_made, table=x, box=box)

    def test_tables_before_words(self):
        for x in NO_TABLES:
            for word in ("set 0", "set 3", None):
                self.raised(InvalidTable, x, certify_table, x, word)
                self.raised(InvalidTable, x, certify_table, word=word, table=x)

    def test_words(self):
        for x in NO_WORDS:
            for table in (UP, GREATEST, RULED_3[0]):
                self.raised(InvalidWord, x, certify_table, table, x)
                self.raised(InvalidWord, x, certify_table, word=x, table=table)


if __name__ == "__main__":
    unittest.main()
