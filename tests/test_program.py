"""The program as a whole: what is asked in several ways is told alike, and what goes there comes back."""

import importlib
import inspect
import itertools
import unittest

from tests.samples import BOXES, GREATEST, LEAST, RULED_2, RULED_3, SWAP, TABLES, UP, arguments_of
from threevalues import limits
from threevalues.boxes import Box
from threevalues.certificates import certify_box, certify_made, certify_table
from threevalues.checker import accepts
from threevalues.console import Console
from threevalues.desks import Desk
from threevalues.errors import Broken
from threevalues.making import (
    best_of, brings, common, few_places, helps, kept, least_lots, made, makes_all, needless, one_place, onto_names,
    rank, steps, unlike,
)
from threevalues.mends import fault, mending
from threevalues.relations import WORDS, keepers, keeps, kept_by, leads_out, renamed_word
from threevalues.sheets import (
    fill_that_makes_all, fillings, forced, kept_by_each, kept_by_some, lone_makers, sheet_of,
)
from threevalues.shelves import Shelf
from threevalues.tables import all_tables, places, put_together, renamed, turned_round, value

# What the document lists: functions and classes by the modules that define them.
LISTED = {
    "tables": (
        "value", "places", "counting", "is_onto", "fixed", "digits_of", "renamed", "put_together", "turned_round",
        "all_tables",
    ),
    "relations": ("relation", "keeps", "leads_out", "kept_by", "keepers", "least_breaker", "renamed_word"),
    "boxes": ("Box",),
    "making": (
        "kept", "makes_all", "one_place", "steps", "made", "few_places", "least_lots", "needless", "helps", "rank",
        "best_of", "unlike", "common", "brings", "onto_names",
    ),
    "sheets": (
        "fillings", "kept_by_some", "kept_by_each", "fill_that_makes_all", "lone_makers", "sheet_of", "forced",
    ),
    "shelves": ("Shelf",), "mends": ("fault", "mending"), "desks": ("Desk",), "checker": ("accepts",),
    "certificates": ("certify_box", "certify_table", "certify_made"), "console": ("Console",),
}
MEMBERS = {
    ("boxes", "Box"): (
        "read", "rows", "text", "names", "tables", "__len__", "__bool__", "table_of", "with_row", "plus", "part",
        "without", "renamed", "__eq__", "__str__", "__repr__",
    ),
    ("shelves", "Shelf"): ("put", "take", "tried", "undo", "box", "kept", "complete", "changes"),
    ("desks", "Desk"): (
        "put", "named", "drop", "wish", "lift", "undo", "trial", "tried", "names", "wishes", "changes", "__len__",
        "__bool__",
    ),
    ("console", "Console"): ("box", "say"),
}
ORDERS = tuple(itertools.permutations((0, 1, 2)))
MAX = "max " + GREATEST
PAIR, TWO = Box(MAX, "up 120"), Box(MAX, "swap 210")
LOTS = Box(MAX, "up 120", "webb 120220000", "min " + LEAST, "one 111", "w " + RULED_3[10])
MORE = (*BOXES, LOTS)


class Listed(unittest.TestCase):
    def test_functions_and_classes(self):
        for name, told in LISTED.items():
            module = importlib.import_module("threevalues." + name)
            for each in told:
                self.assertEqual(getattr(module, each).__module__, "threevalues." + name)
                self.assertEqual(getattr(module, each).__name__, each)

    def test_members_of_classes(self):
        for (name, word), told in MEMBERS.items():
            found = vars(getattr(importlib.import_module("threevalues." + name), word))
            for each in told:
                self.assertIn(each, found)

    def test_classes_know_no_other_order_or_sum(self):
        for name, word in MEMBERS:
            kind = getattr(importlib.import_module("threevalues." + name), word)
            self.assertEqual(kind.__bases__, (object,))
            self.assertTrue(inspect.isclass(kind))


class Alike(unittest.TestCase):
    def test_whether_a_box_makes_all(self):
        for box in MORE:
            told = makes_all(box)
            self.assertIs(kept(box) == (), told)
            self.assertIs(fault(box, ("all",)) is None, told)
            self.assertIs(least_lots(box) != (), told)
            self.assertIs(len(one_place(box)) == 27 and onto_names(box) != (), told)
            self.assertIs(self.shelf_of(box).complete, told)
            self.assertEqual(Console(box).say("all"), "yes" if told else "no")
            self.assertEqual(certify_box(box)[0][0], "all" if told else "kept")
            self.assertIs(mending(box, (), (("all",),)) == ((),), told)
            self.assertIs(self.wished(box, ("all",)), told)
            self.assertIs(rank(box) == 18, told)
            self.assertIs(all(fill_that_makes_all(box, table) == table for table in ("012", "000")), told)

    def shelf_of(self, box):
        shelf = Shelf()
        for row in box.rows:
            shelf.put(row)
        return shelf

    def wished(self, box, wish):
        """Whether a desk takes the wish about the box."""
        desk = Desk()
        desk.put("lab", box)
        try:
            desk.wish(("lab", wish))
        except Broken as e:
            self.assertEqual(e.shown, fault(box, wish))
            self.assertEqual((e.index, desk.wishes, desk.changes), (0, (), 1))
            return False
        self.assertEqual((desk.wishes, desk.changes), ((("lab", wish),), 2))
        return True

    def test_the_words_that_are_kept(self):
        for box in MORE:
            words = kept(box)
            self.assertEqual(words, tuple(w for w in WORDS if all(w in kept_by(table) for table in box.tables)))
            self.assertEqual(self.shelf_of(box).kept, words)
            self.assertEqual(Console(box).say("kept"), ", ".join(words) if words else "none")
            self.assertEqual(Console(box).say("rank"), str(rank(box)))
            for word in WORDS:
                told = word in words
                self.assertIs(fault(box, ("keeps", word)) is None, told)
                self.assertIs(fault(box, ("leaves", word)) is None, not told)
                self.assertIs(self.wished(box, ("keeps", word)), told)
                self.assertIs(accepts(("kept", box.text, word), ()), told)
                self.assertIs(Console(box).say("keeps " + word) == "yes", told)

    def test_the_words_of_tables(self):
        for table in (*TABLES, *RULED_2, *RULED_3):
            words = kept_by(table)
            self.assertEqual(kept(Box("a " + table)), words)
            self.assertEqual(kept_by_some(table), words)
            self.assertEqual(kept_by_each(table), words)
            self.assertEqual(lone_makers(table) == (table,), makes_all(Box("a " + table)))
            for word in WORDS:
                told = keeps(table, word)
                self.assertIs(word in words, told)
                self.assertIs(leads_out(table, word) is None, told)
                self.assertIs(certify_table(table, word) is None, told)
                self.assertIs(forced(table, word) == table, told)
                if len(table) == 3:
                    self.assertIs(table in keepers(word), told)
                if not told:
                    self.assertTrue(accepts(("out", table, word, leads_out(table, word)), ()))

    def test_the_tables_of_one_place(self):
        for box in MORE[:16]:
            able = one_place(box)
            self.assertEqual(few_places(box, 1, 60), able)
            self.assertEqual(Console(box).say("made"), str(len(able)))
            self.assertEqual(common(box, box), able)
            for table in all_tables()[::2]:
                told = table in able
                self.assertIs(steps(box, table) is not None, told)
                self.assertIs(fault(box, ("makes", table)) is None, told)
                self.assertIs(certify_made(box, table) is not None, told)
                self.assertEqual(Console(box).say("makes " + table), "yes" if told else "no")
                self.assertIs(self.wished(box, ("makes", table)), told)

    def test_what_is_made_keeps_what_is_kept(self):
        for box in MORE:
            for word in kept(box):
                self.assertTrue(all(table in keepers(word) for table in one_place(box)))

    def test_boxes_alike(self):
        for one, other in itertools.combinations(MORE[:10], 2):
            told = unlike(one, other)
            self.assertEqual(fault(one, ("alike", other)), told)
            self.assertIs(fault(one, ("unlike", other)) is None, told is not None)
            desk = Desk()
            desk.put("a", one)
            desk.put("b", other)
            if told is None:
                self.assertIsNone(desk.wish(("alike", "a", "b")))
                continue
            with self.assertRaises(Broken) as caught:
                desk.wish(("alike", "a", "b"))
            self.assertEqual(caught.exception.shown, told)

    def test_one_row_more(self):
        for box in MORE:
            if len(box) < 6:
                for table in (UP, SWAP, GREATEST, "111", RULED_3[10]):
                    more = box.plus("new " + table)
                    self.assertEqual(self.shelf_of(box).tried("new " + table), helps(box, table))
                    self.assertEqual(self.shelf_of(box).put("new " + table), helps(box, table))
                    self.assertEqual(brings(box, "new " + table) == (), one_place(more) == one_place(box))
                    self.assertEqual(fill_that_makes_all(box, table) == table, makes_all(more))
                    self.assertEqual(best_of(box, ("012", table)), int(helps(box, table) != ()))
                    self.assertEqual(rank(more), rank(box) + len(helps(box, table)))

    def test_needless_rows(self):
        for box in MORE:
            for k, name in enumerate(box.names):
                shelf = self.shelf_of(box)
                self.assertEqual(shelf.take(name) == (), k in needless(box))
                self.assertEqual(shelf.box, box.without(name))

    def test_lots(self):
        for box in MORE:
            for lot in least_lots(box):
                self.assertTrue(makes_all(box.part(lot)))
                self.assertEqual(needless(box.part(lot)), ())
            told = " ".join("+".join(box.part(lot).names) for lot in least_lots(box)) or "none"
            self.assertEqual(Console(box).say("lots"), told)

    def test_values_exchanged(self):
        for box in BOXES[:14]:
            for order in ORDERS:
                other = box.renamed(order)
                words = {renamed_word(word, order) for word in kept(box)}
                self.assertEqual(set(kept(other)), words)
                self.assertEqual(one_place(other), tuple(sorted(renamed(table, order) for table in one_place(box))))
                self.assertEqual(least_lots(other), least_lots(box))

    def test_mending_and_exchanging_rows(self):
        exchanges = ((0, "a 120"), (1, "up 120"), (1, MAX))
        for box in (TWO, Box("a 012", "b 012"), PAIR):
            for lot in mending(box, exchanges, (("all",),)):
                other = box
                for k in lot:
                    other = other.with_row(*exchanges[k])
                self.assertTrue(makes_all(other))


class ThereAndBack(unittest.TestCase):
    def test_tables(self):
        for table in (*TABLES, *RULED_2, *RULED_3):
            count = places(table)
            told = tuple((arguments, value(table, arguments)) for arguments in arguments_of(count))
            self.assertEqual(sheet_of(count, told), table)
            console = Console(Box("a " + table))
            said = [console.say("of a " + " ".join(map(str, arguments))) for arguments, _ in told]
            self.assertEqual("".join(said), table)
            for order in ORDERS:
                back = tuple(order.index(x) for x in (0, 1, 2))
                self.assertEqual(renamed(renamed(table, order), back), table)
            for order in itertools.permutations(range(count)):
                back = tuple(order.index(x) for x in range(count))
                self.assertEqual(turned_round(turned_round(table, order), back), table)

    def test_boxes(self):
        for box in MORE:
            self.assertEqual(Box.read(box.text), box)
            self.assertEqual(Box.read(str(box)).rows, box.rows)
            self.assertEqual(Box(*[f"{name} {table}" for name, table in zip(box.names, box.tables)]), box)
            said = [Console(box).say(f"row {k}") for k in range(len(box))]
            self.assertEqual("\n".join(said), box.text)
            for order in ORDERS:
                back = tuple(order.index(x) for x in (0, 1, 2))
                self.assertEqual(box.renamed(order).renamed(back), box)

    def test_certificates(self):
        for box in MORE:
            claim, certificate = certify_box(box)
            other = Box.read(claim[1])
            self.assertEqual(other, box)
            self.assertEqual(certify_box(other), (claim, certificate))
            if claim[0] == "all":
                self.assertEqual(tuple(sorted(made(other, certificate))), one_place(box))
            for table in one_place(box)[::4]:
                (_, text, told), proof = certify_made(box, table)
                self.assertEqual((steps(Box.read(text), told), made(box, proof)[-1]), (proof, table))

    def test_forced_sheets(self):
        for sheet in ("???", "1?0", "12?", "0?212???0", "?12112222", "120?2?0?0"):
            self.assertEqual(fillings(sheet), 3 ** sheet.count("?"))
            for word in WORDS:
                told = forced(sheet, word)
                self.assertIs(told is None, word not in kept_by_some(sheet))
                if told is not None:
                    self.assertEqual(forced(told, word), told)
                    self.assertIn(word, kept_by_some(told))
                    self.assertLessEqual(fillings(told), fillings(sheet))

    def test_desks_and_shelves(self):
        desk, shelf = Desk(), Shelf()
        for row in LOTS.rows:
            shelf.put(row)
            desk.put("box", shelf.box)
        self.assertEqual(desk.named("box"), LOTS)
        for many in range(len(LOTS) - 1, 0, -1):
            desk.undo()
            shelf.undo()
            self.assertEqual(desk.named("box"), shelf.box)
            self.assertEqual((len(shelf.box), desk.changes, shelf.changes), (many,) * 3)


class AskedAgain(unittest.TestCase):
    def answers(self, box):
        """Answers of all modules about a box."""
        shelf, desk = Shelf(), Desk()
        for row in box.rows:
            shelf.put(row)
        desk.put("lab", box)
        return [
            kept(box), makes_all(box), one_place(box), steps(box, "120"), least_lots(box), needless(box), rank(box),
            helps(box, UP), unlike(box, PAIR), onto_names(box), fill_that_makes_all(box, "1?0"), shelf.kept,
            shelf.changes, fault(box, ("all",)), mending(box, (), (("leaves", "turn"),)), desk.names,
            desk.tried(len), certify_box(box), certify_made(box, "111"), Console(box).say("kept"), box.text,
            accepts(*certify_box(box)), [leads_out(table, "chain 1") for table in box.tables],
            [put_together(table, ("012",) * places(table)) for table in box.tables],
        ]

    def test_behind_other_questions(self):
        first = [self.answers(box) for box in MORE]
        again = [self.answers(box) for box in MORE[::-1]]
        self.assertEqual(again[::-1], first)
        for box, told in zip(MORE, first):
            self.assertEqual(self.answers(Box.read(box.text)), told)

    def test_limits(self):
        self.assertEqual(
            (limits.MOST_TABLES, limits.MOST_LETTERS, limits.MOST_PLACES, limits.MOST_OPEN, limits.MOST_MADE,
             limits.MOST_EXCHANGES), (6, 4, 3, 6, 60, 5),
        )


if __name__ == "__main__":
    unittest.main()
