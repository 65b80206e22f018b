import unittest

from threevalues import limits


class Limits(unittest.TestCase):
    def test_the_six_numbers(self):
        told = {
            "MOST_TABLES": 6, "MOST_LETTERS": 4, "MOST_PLACES": 3,
            "MOST_OPEN": 6, "MOST_MADE": 60, "MOST_EXCHANGES": 5,
        }
        self.assertEqual({name: getattr(limits, name) for name in dir(limits) if name.isupper()}, told)
        for name in told:
            self.assertIs(type(getattr(limits, name)), int)


if __name__ == "__main__":
    unittest.main()
