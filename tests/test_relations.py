"""What relations tells for valid arguments."""

import itertools
import unittest

from tests.samples import GREATEST, RULED_2, RULED_3, TABLES, UP, Calls, entries, inner, some_tables
from threevalues import relations
from threevalues.relations import (
    WORDS, keepers, keeps, kept_by, leads_out, least_breaker, relation, renamed_word,
)

PARAMETERS = {
    "relation": ("word",), "keeps": ("table", "word"), "leads_out": ("table", "word"), "kept_by": ("table",),
    "keepers": ("word",), "least_breaker": ("word",), "renamed_word": ("word", "order"),
}
TRIPLES = list(itertools.product((0, 1, 2), repeat=3))
# Each relation, in the order of the words, told without the program.
TOLD = {
    "set 0": ((0,),), "set 1": ((1,),), "set 2": ((2,),),
    "set 01": ((0,), (1,)), "set 02": ((0,), (2,)), "set 12": ((1,), (2,)),
    "part 0": ((0, 0), (1, 1), (1, 2), (2, 1), (2, 2)),
    "part 1": ((0, 0), (0, 2), (1, 1), (2, 0), (2, 2)),
    "part 2": ((0, 0), (0, 1), (1, 0), (1, 1), (2, 2)),
    "turn": ((0, 1), (1, 2), (2, 0)),
    "sums": tuple(row for row in itertools.product((0, 1, 2), repeat=4) if sum(row[:2]) % 3 == sum(row[2:]) % 3),
    "chain 0": ((0, 0), (0, 2), (1, 0), (1, 1), (1, 2), (2, 2)),
    "chain 1": ((0, 0), (0, 1), (0, 2), (1, 1), (1, 2), (2, 2)),
    "chain 2": ((0, 0), (0, 1), (0, 2), (1, 1), (2, 1), (2, 2)),
    "centre 0": ((0, 0), (0, 1), (0, 2), (1, 0), (1, 1), (2, 0), (2, 2)),
    "centre 1": ((0, 0), (0, 1), (1, 0), (1, 1), (1, 2), (2, 1), (2, 2)),
    "centre 2": ((0, 0), (0, 2), (1, 1), (1, 2), (2, 0), (2, 1), (2, 2)),
    "mixed": tuple(row for row in TRIPLES if len(set(row)) < 3),
}
ALL_1 = ["".join(signs) for signs in itertools.product("012", repeat=3)]
ORDERS = list(itertools.permutations((0, 1, 2)))


def plainly_kept(table, word):
    """Whether all rows of the relation make a tuple of it, looked at one by one."""
    told, allowed = entries(table), set(TOLD[word])
    many = {3: 1, 9: 2, 27: 3}[len(table)]
    return all(inner(told, rows) in allowed for rows in itertools.product(TOLD[word], repeat=many))


class Interface(Calls):
    def test_names_and_parameters(self):
        for name, told in PARAMETERS.items():
            self.parameters(getattr(relations, name), told)
            self.assertEqual(getattr(relations, name).__module__, "threevalues.relations")

    def test_by_position_and_by_name(self):
        self.assertEqual(self.all_orders(relation, {"word": "set 02"}), ((0,), (2,)))
        self.assertIs(self.all_orders(keeps, {"table": UP, "word": "turn"}), True)
        self.assertEqual(self.all_orders(leads_out, {"table": UP, "word": "set 0"}), ((0,),))
        self.assertEqual(self.all_orders(kept_by, {"table": UP}), ("turn", "sums", "mixed"))
        self.assertEqual(self.all_orders(keepers, {"word": "turn"}), ("012", "120", "201"))
        self.assertEqual(self.all_orders(least_breaker, {"word": "set 0"}), "100")
        self.assertEqual(self.all_orders(renamed_word, {"word": "set 12", "order": (2, 1, 0)}), "set 01")


class Examples(unittest.TestCase):
    def test_relations(self):
        got = [[len(relation(word)) for word in WORDS], relation("chain 0"), relation("part 1"), relation("turn")]
        self.assertEqual(got, [
            [1, 1, 1, 2, 2, 2, 5, 5, 5, 3, 27, 6, 6, 6, 7, 7, 7, 21],
            ((0, 0), (0, 2), (1, 0), (1, 1), (1, 2), (2, 2)), ((0, 0), (0, 2), (1, 1), (2, 0), (2, 2)),
            ((0, 1), (1, 2), (2, 0)),
        ])

    def test_keeping(self):
        got = [
            kept_by(GREATEST), kept_by(UP), kept_by("120220000"), leads_out(UP, "set 0"), leads_out(UP, "turn"),
            renamed_word("chain 2", (1, 2, 0)), renamed_word("set 12", (2, 1, 0)), keepers("turn"),
            len(keepers("chain 1")), len(keepers("mixed")), least_breaker("set 0"), least_breaker("mixed"),
        ]
        self.assertEqual(got, [
            ("set 0", "set 1", "set 2", "set 01", "set 02", "set 12", "part 0", "part 2", "chain 0", "chain 1",
             "centre 1", "centre 2"),
            ("turn", "sums", "mixed"), (), ((0,),), None, "chain 0", "set 01", ("012", "120", "201"), 10, 27, "100",
            "000000012",
        ])


class Relations(unittest.TestCase):
    def test_words(self):
        self.assertIs(type(WORDS), tuple)
        self.assertEqual(WORDS, tuple(TOLD))
        self.assertEqual(len(WORDS), 18)

    def test_tuples_of_each(self):
        for word, rows in TOLD.items():
            got = relation(word)
            self.assertEqual(got, rows, word)
            self.assertEqual(got, tuple(sorted(set(got))), word)
            self.assertEqual({type(x) for x in (got, *got)}, {tuple}, word)
            self.assertEqual({type(x) for row in got for x in row}, {int}, word)

    def test_lengths_of_tuples(self):
        lengths = {word: {len(row) for row in relation(word)} for word in WORDS}
        self.assertEqual(
            list(lengths.values()), [{1}] * 6 + [{2}] * 4 + [{4}] + [{2}] * 6 + [{3}],
        )


class Keeping(unittest.TestCase):
    def check(self, table, word):
        told = plainly_kept(table, word)
        self.assertIs(keeps(table, word), told, (table, word))
        rows = leads_out(table, word)
        if told:
            self.assertIsNone(rows, (table, word))
            return
        self.assertIs(type(rows), tuple)
        self.assertEqual(3 ** len(rows), len(table))
        for row in rows:
            self.assertIn(row, TOLD[word])
        self.assertNotIn(inner(entries(table), rows), TOLD[word], (table, word))

    def check_all(self, tables):
        """Looks at each table by all words; returns the pairs of a word and whether it was ever kept, or not."""
        seen = set()
        for table in tables:
            for word in WORDS:
                self.check(table, word)
            told = tuple(word for word in WORDS if keeps(table, word))
            self.assertEqual(kept_by(table), told)
            seen |= {(word, word in told) for word in WORDS}
        return seen

    def test_one_place(self):
        seen = self.check_all(ALL_1)
        self.assertEqual({(word, True) for word in WORDS} - seen, set())
        self.assertEqual({(word, False) for word in WORDS} - seen, {("mixed", False)})

    def test_two_places(self):
        tables = [*(t for t in TABLES if len(t) == 9), *RULED_2, *some_tables(2, 40)]
        self.assertEqual(len(self.check_all(tables)), 36)

    def test_three_places(self):
        tables = [*(t for t in TABLES if len(t) == 27), *RULED_3, *some_tables(3, 3)]
        self.assertEqual(len(self.check_all(tables)), 36)

    def test_sums_with_one_entry_changed(self):
        for table in (RULED_2[2], RULED_2[4], RULED_3[0], RULED_3[1], "0" * 9, "1" * 27):
            self.assertTrue(keeps(table, "sums"))
            for at in range(len(table)):
                other = table[:at] + str((int(table[at]) + 1) % 3) + table[at + 1:]
                self.assertFalse(keeps(other, "sums"), other)
                if len(table) == 9:
                    self.check(other, "sums")

    def test_all_sums_of_two_places(self):
        sums = {
            "".join(str((a * x + b * y + c) % 3) for x in (0, 1, 2) for y in (0, 1, 2)) for a, b, c in TRIPLES
        }
        found = {t for t in map("".join, itertools.product("012", repeat=9)) if keeps(t, "sums")}
        self.assertEqual(found, sums)

    def test_mixed_at_its_edges(self):
        kept = (
            "012", "000", "0" * 27, "012" * 9, "000111222", "111000222" * 3, "0" * 9 + "2" * 9 + "1" * 9,
            "0" * 8 + "1", "010101010", "0" * 26 + "2", "112121212" * 3,
        )
        for table in kept:
            self.assertIs(keeps(table, "mixed"), True, table)
            self.assertIsNone(leads_out(table, "mixed"), table)
        for table in ("000000012", GREATEST, GREATEST * 3, "0" * 25 + "12", "120220000"):
            self.check(table, "mixed")
            self.assertIs(keeps(table, "mixed"), False, table)

    def test_plain_table_keeps_all(self):
        for table in ("012", "000111222", "012012012", "012" * 9):
            self.assertEqual(kept_by(table), WORDS)

    def test_equal_calls_return_equal_results(self):
        for word in WORDS:
            self.assertEqual(leads_out(RULED_3[15], word), leads_out(RULED_3[15], word))
            self.assertEqual(relation(word), relation(word))


class Breaking(unittest.TestCase):
    def test_keepers(self):
        for word in WORDS:
            got = keepers(word)
            self.assertIs(type(got), tuple)
            self.assertEqual(got, tuple(table for table in ALL_1 if plainly_kept(table, word)))
        self.assertEqual(keepers("set 02")[:4], ("000", "002", "010", "012"))
        self.assertEqual(keepers("mixed"), tuple(ALL_1))

    def test_least_breaker_of_one_place(self):
        for word in WORDS[:-1]:
            self.assertEqual(least_breaker(word), next(t for t in ALL_1 if not plainly_kept(t, word)), word)

    def test_least_breaker_of_two_places(self):
        lesser = ["".join(signs) for signs in itertools.product("012", repeat=9)]
        self.assertEqual(least_breaker("mixed"), next(t for t in lesser if not plainly_kept(t, "mixed")))


class Renaming(unittest.TestCase):
    def test_all_words_in_all_orders(self):
        for word in WORDS:
            for order in ORDERS:
                got = renamed_word(word, order)
                moved = {tuple(order[x] for x in row) for row in TOLD[word]}
                back = {row[::-1] for row in moved}
                self.assertIn(got, WORDS)
                if word == "turn" or word.startswith("chain"):
                    self.assertIn(set(TOLD[got]), (moved, back), (word, order))
                else:
                    self.assertEqual(set(TOLD[got]), moved, (word, order))

    def test_kind_stays_and_told_values_move(self):
        for word in WORDS:
            for order in ORDERS:
                kind, _, told = word.partition(" ")
                moved = "".join(sorted(str(order[int(sign)]) for sign in told))
                self.assertEqual(renamed_word(word, order), f"{kind} {moved}".strip())

    def test_not_the_order_gone_back(self):
        self.assertEqual([renamed_word("set 0", (1, 2, 0)), renamed_word("set 0", (2, 0, 1))], ["set 1", "set 2"])
        self.assertEqual(renamed_word("turn", (1, 0, 2)), "turn")


if __name__ == "__main__":
    unittest.main()
