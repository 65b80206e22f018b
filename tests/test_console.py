"""What a Console says, and what it raises."""

import inspect
import itertools
import unittest

from tests.samples import (
    BIG, BOXES, GREATEST, LEAST, NO_BOXES, ODD, RULED_2, RULED_3, Calls, arguments_of, looked_up,
)
from threevalues.boxes import Box
from threevalues.console import Console
from threevalues.errors import InvalidText, NotABox
from threevalues.making import kept, least_lots, makes_all, one_place, rank
from threevalues.relations import WORDS, keeps
from threevalues.tables import places

MAX = "max " + GREATEST
PAIR, TWO = Box(MAX, "up 120"), Box(MAX, "swap 210")
WIDE = Box("a 120", "bb " + LEAST, "ccc " + RULED_3[10], "dddd " + RULED_3[15], "e 012", "f 120220000")
ALL_1 = ["".join(signs) for signs in itertools.product("012", repeat=3)]
BESIDE = (
    Box(), Box("up 120"), PAIR, TWO, WIDE, Box("s " + RULED_2[2], "t " + RULED_3[0]), *BOXES[10:18],
    Box(MAX, "up 120", "webb 120220000", "min " + LEAST),
)


class Interface(Calls):
    def test_names_and_parameters(self):
        self.assertEqual(Console.__module__, "threevalues.console")
        self.assertEqual(tuple(inspect.signature(Console).parameters), ("box",))
        self.assertIn("box", vars(Console))
        self.assertIn("say", vars(Console))
        self.parameters(Console(TWO).say, ("line",))

    def test_by_name(self):
        console = Console(box=TWO)
        self.assertIs(console.box, TWO)
        self.assertEqual(console.say(line="rank"), "15")

    def test_example(self):
        console = Console(TWO)
        lines = (
            "row 1", "all", "kept", "made", "makes 212", "makes 111", "of max 1 2", "lots", "rank", "keeps set 1",
            "keeps turn",
        )
        got = [console.say(line) for line in lines] + [Console(PAIR).say("lots"), Console(PAIR).say("kept")]
        self.assertEqual(got, [
            "swap 210", "no", "set 1, set 02, centre 1", "4", "yes", "no", "2", "none", "15", "yes", "max", "max+up",
            "none",
        ])

    def test_a_console_is_true_and_equals_no_other(self):
        console = Console(Box())
        self.assertIs(bool(console), True)
        for x in (Console(Box()), Box(), None, "", ()):
            self.assertIs(console == x, False)
            self.assertIs(console != x, True)


class Lines(Calls):
    def says(self, box, line, answer):
        console = Console(box)
        got = console.say(line)
        self.assertIs(type(got), str)
        self.assertEqual(got, answer, (box.rows, line))
        self.assertEqual(console.say(line), got)
        self.assertIs(console.box, box)

    def test_lines_of_one_word(self):
        seen = set()
        for box in BESIDE:
            self.says(box, "all", "yes" if makes_all(box) else "no")
            self.says(box, "kept", ", ".join(kept(box)) or "none")
            self.says(box, "made", str(len(one_place(box))))
            self.says(box, "rank", str(rank(box)))
            names = ["+".join(box.names[k] for k in lot) for lot in least_lots(box)]
            self.says(box, "lots", " ".join(names) if names else "none")
            seen.add((makes_all(box), len(names) > 1))
        self.assertEqual(seen, {(False, False), (True, False), (True, True)})

    def test_lines_of_one_word_for_a_box_without_rows(self):
        for line, answer in (("all", "no"), ("kept", ", ".join(WORDS)), ("made", "1"), ("rank", "0"), ("lots", "none")):
            self.says(Box(), line, answer)

    def test_lots(self):
        self.says(Box(MAX, "up 120", "webb 120220000", "min " + LEAST), "lots", "webb max+up up+min")
        self.says(Box("webb 120220000"), "lots", "webb")
        self.says(Box("webb 120220000"), "kept", "none")

    def test_rows(self):
        for box in BESIDE:
            for k, row in enumerate(box.rows):
                self.says(box, f"row {k}", row)

    def test_keeps(self):
        for box in BESIDE:
            for word in WORDS:
                names = [name for name, table in zip(box.names, box.tables) if not keeps(table, word)]
                self.says(box, "keeps " + word, names[0] if names else "yes")

    def test_makes(self):
        for box in BESIDE:
            able = one_place(box)
            for table in ALL_1[::5] + ["012", "222"]:
                self.says(box, "makes " + table, "yes" if table in able else "no")

    def test_of(self):
        for box in (TWO, WIDE, BESIDE[5]):
            for name, table in zip(box.names, box.tables):
                for arguments in arguments_of(places(table)):
                    line = f"of {name} " + " ".join(str(x) for x in arguments)
                    self.says(box, line, str(looked_up(table, arguments)))

    def test_names_that_are_words_of_lines(self):
        box = Box("all 120", "of " + GREATEST, "row 021", "lots 111")
        for line, answer in (
            ("of all 1", "2"), ("of of 1 2", "2"), ("of row 0", "0"), ("of lots 0", "1"), ("all", "yes"),
            ("row 1", "of " + GREATEST), ("keeps set 0", "all"),
        ):
            self.says(box, line, answer)


class Wrong(Calls):
    def test_boxes(self):
        for x in (*NO_BOXES, *ODD, Console(TWO)):
            self.raised(NotABox, x, Console, x)
            self.raised(NotABox, x, Console, box=x)

    def refused(self, box, *lines):
        console = Console(box)
        for line in lines:
            self.raised(InvalidText, line, console.say, line)
            self.raised(InvalidText, line, console.say, line=line)
        self.assertIs(console.box, box)

    def test_values_of_any_kind(self):
        for box in (TWO, Box()):
            self.refused(box, *ODD, *NO_BOXES, box, ("all",), ["all"], b"all", {"all": 1}, BIG, Console(box), {"all"})

    def test_words_that_are_none(self):
        self.refused(
            TWO, "", " ", "\n", "al", "alls", "All", "ALL", "every", "help", "of", "row", "keeps", "makes", "max",
            "swap", "kept all", "all kept", "all all", "rows 0", "row0", "keep set 1", "make 012", "values", "text",
            "?", "lot", "ranks", "all\nall", "set 1", "012", TWO.text, TWO.rows[0],
        )

    def test_blanks(self):
        lines = ("all", "kept", "made", "rank", "lots", "row 1", "keeps set 1", "keeps turn", "makes 212", "of max 1 2")
        for line in lines:
            self.assertTrue(Console(TWO).say(line))
            self.refused(
                TWO, line + " ", " " + line, line + "\n", "\n" + line, line + "  ", line + "\t", line + " 0",
                line + " x", line.upper(), line + line, line + ".", line[:-1] + " ",
            )
            if " " in line:
                self.refused(TWO, line.replace(" ", "  "), line.replace(" ", "\t"), line.replace(" ", "\n"),
                             line.replace(" ", ""), line.split(" ")[0] + " ", line.split(" ")[0])

    def test_rows(self):
        for box in (Box(), Box("up 120"), TWO, WIDE):
            many = len(box)
            self.refused(
                box, f"row {many}", f"row {many + 1}", "row -1", f"row -{many}", "row 00", "row 01", "row 000001",
                "row +0", "row 0 ", "row  0", "row 0.", "row 0x0", "row 0_0", "row 1_0", "row one", "row", "row ",
                f"row {BIG}", f"row -{BIG}", "row 10", "row 6", "row 0 1", "row up", "row \u0660", "row 0\n",
            )

    def test_keeps(self):
        self.refused(
            TWO, "keeps", "keeps ", "keeps set", "keeps set 3", "keeps set  0", "keeps set 0 ", "keeps 0", "keeps all",
            "keeps turn 0", "keeps mixed ", "keeps Set 0", "keeps set 0 1", "keeps chain 1\n", "keeps max",
            "keeps set0", "keeps set 10", "keeps center 1",
        )

    def test_makes(self):
        self.refused(
            TWO, "makes", "makes ", "makes 01", "makes 0120", "makes 013", "makes " + GREATEST, "makes " + RULED_3[0],
            "makes 012 012", "makes 0 1 2", "makes max", "makes 012\n", "makes 01?", "makes a12", "makes -12",
        )

    def test_of(self):
        self.refused(
            TWO, "of", "of ", "of max", "of max ", "of max 1", "of max 1 ", "of max 1 2 0", "of max 12", "of max 1  2",
            "of max 1 3", "of max 3 1", "of max -1 1", "of max 1 -1", "of max 01 1", "of max 1 01", "of max 1 a",
            "of max a 1", "of max 1 10", "of swap", "of swap ", "of swap 3", "of swap 0 0", "of swap 00", "of swap a",
            "of min 1 2", "of up 0", "of  max 1 2", "of Max 1 2", "of maxi 1 2", "of ma 1 2", "of 0 1 2", "of 1 2",
            "of 012112222 1 2", "of max 1 2\n", "of max 1,2", "of max (1, 2)", "of max 1 \u0662", "of swap  0",
            "of max\n1 2",
        )
        self.refused(Box(), "of max 1 2", "of  0", "of ", "of")
        self.refused(WIDE, "of ccc 0 0", "of ccc 0 0 0 0", "of ccc 0 0 3", "of bb 0", "of dddd 000", "of a 0 0 0")


if __name__ == "__main__":
    unittest.main()
