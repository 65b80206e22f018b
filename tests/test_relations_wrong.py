"""What relations raises for arguments that are not valid."""

import unittest

from tests.samples import BIG, ODD, UP, Calls
from threevalues import relations
from threevalues.errors import InvalidOrder, InvalidTable, InvalidWord
from threevalues.relations import WORDS, kept_by, renamed_word

NO_WORDS = (
    *ODD, "set", "set ", "set 3", "set 10", "set 20", "set 012", "set  0", " set 0", "set 0 ", "set 0\n", "SET 0",
    "set 1 2", "part", "part 3", "part 01", "turn 0", "turn ", "turn\n", "sums 1", "sum", "chain", "chain 3",
    "chain 12", "centre", "center 0", "centre 3", "mixed ", "mixed 0", "", "0", b"turn", ["turn"], ("turn",),
    WORDS, list(WORDS), {"turn"}, 9, 17, "set 0,turn",
)
NO_ORDERS = (
    *ODD, (), (0,), (0, 1), (0, 1, 2, 3), (0, 0, 1), (1, 2, 3), (-1, 0, 1), (0, True, 2), (False, 1, 2), [0, 1, 2],
    "012", ("0", "1", "2"), (0, 1, None), (0, 1, BIG), ((0, 1, 2),), (0, 1, [2]), {0, 1, 2}, range(3),
)
NO_TABLES = (*ODD, "0123", "0" * 81, "01a", ["012"], ("012",), 120, b"012")


class Wrong(Calls):
    def test_words(self):
        for x in NO_WORDS:
            for name in ("relation", "keepers", "least_breaker"):
                self.raised(InvalidWord, x, getattr(relations, name), x)
                self.raised(InvalidWord, x, getattr(relations, name), word=x)
            for name in ("keeps", "leads_out"):
                self.raised(InvalidWord, x, getattr(relations, name), UP, x)
                self.raised(InvalidWord, x, getattr(relations, name), word=x, table=UP)
            self.raised(InvalidWord, x, renamed_word, x, (0, 1, 2))

    def test_tables(self):
        for x in NO_TABLES:
            self.raised(InvalidTable, x, kept_by, x)
            self.raised(InvalidTable, x, kept_by, table=x)
            for name in ("keeps", "leads_out"):
                for word in ("set 0", "sums", "mixed"):
                    self.raised(InvalidTable, x, getattr(relations, name), x, word)

    def test_orders(self):
        for x in NO_ORDERS:
            for word in WORDS:
                self.raised(InvalidOrder, x, renamed_word, word, x)
                self.raised(InvalidOrder, x, renamed_word, order=x, word=word)

    def test_the_first_argument_is_looked_at_first(self):
        for x in ("0121", None, [1]):
            for y in NO_WORDS:
                for name in ("keeps", "leads_out"):
                    self.raised(InvalidTable, x, getattr(relations, name), x, y)
                    self.raised(InvalidTable, x, getattr(relations, name), word=y, table=x)
        for x in ("set", None, ["turn"]):
            for y in NO_ORDERS:
                self.raised(InvalidWord, x, renamed_word, x, y)
                self.raised(InvalidWord, x, renamed_word, order=y, word=x)


if __name__ == "__main__":
    unittest.main()
