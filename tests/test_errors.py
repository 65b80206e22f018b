import inspect
import unittest

from threevalues import errors
from tests.samples import BIG, ODD

GIVEN = (
    "InvalidText", "InvalidNumber", "InvalidTable", "InvalidWord", "InvalidArguments", "InvalidTables",
    "InvalidOrder", "InvalidLot", "InvalidSheet", "InvalidName", "InvalidWish", "NotABox",
)
INDEX = ("InvalidRows", "InvalidSteps", "InvalidTold", "InvalidExchanges", "InvalidWishes")
BASES = {"WrongValue": ValueError, "WrongName": LookupError, "NoAnswer": ArithmeticError}
# Each class with the one class under which it is listed, and its attributes in order.
LISTED = {
    **{name: ("WrongValue", ("given",)) for name in GIVEN},
    **{name: ("WrongValue", ("index",)) for name in INDEX},
    "UnknownName": ("WrongName", ("given",)),
    "InUse": ("WrongName", ("index",)),
    "TooMany": ("NoAnswer", ("given",)),
    "Broken": ("NoAnswer", ("index", "shown")),
    "NothingToUndo": ("NoAnswer", ()),
}
ANY = ODD + (0, "012", 1.5, 10 ** 5000, ValueError("x"), errors.InvalidTable)


class Errors(unittest.TestCase):
    def test_the_module_has_just_the_listed_classes(self):
        found = {name for name, _ in inspect.getmembers(errors, inspect.isclass)}
        self.assertEqual(found, set(BASES) | set(LISTED))
        for name in found:
            self.assertEqual(getattr(errors, name).__module__, "threevalues.errors")

    def test_bases(self):
        for name, base in BASES.items():
            self.assertEqual(getattr(errors, name).__bases__, (base,), name)
        for name, (base, _) in LISTED.items():
            self.assertEqual(getattr(errors, name).__bases__, (getattr(errors, base),), name)

    def test_under_no_other_class_of_the_package(self):
        own = [getattr(errors, name) for name in (*BASES, *LISTED)]
        for name, (base, _) in LISTED.items():
            kind = getattr(errors, name)
            above = [other for other in own if issubclass(kind, other)]
            self.assertCountEqual(above, [kind, getattr(errors, base)], name)
        for name in BASES:
            kind = getattr(errors, name)
            self.assertEqual([other for other in own if issubclass(kind, other)], [kind], name)

    def test_python_catches_them_by_its_own_names(self):
        for name, (base, told) in LISTED.items():
            with self.assertRaises(BASES[base]):
                raise getattr(errors, name)(*told)

    def test_classes_with_one_attribute(self):
        for name, (_, told) in LISTED.items():
            if len(told) != 1:
                continue
            kind = getattr(errors, name)
            for x in ANY:
                for error in (kind(x), kind(**{told[0]: x})):
                    self.assertEqual(list(vars(error)), list(told), name)
                    self.assertIs(getattr(error, told[0]), x, name)

    def test_broken_has_two_attributes_in_order(self):
        for x in ANY:
            for y in (None, 7, [x]):
                for error in (
                    errors.Broken(x, y), errors.Broken(x, shown=y),
                    errors.Broken(index=x, shown=y), errors.Broken(shown=y, index=x),
                ):
                    self.assertEqual(list(vars(error)), ["index", "shown"])
                    self.assertIs(error.index, x)
                    self.assertIs(error.shown, y)

    def test_classes_without_attributes(self):
        for name in (*BASES, "NothingToUndo"):
            self.assertEqual(vars(getattr(errors, name)()), {}, name)

    def test_attributes_are_neither_left_out_nor_added(self):
        for name, (_, told) in LISTED.items():
            if not told:
                continue
            kind = getattr(errors, name)
            for wrong in ((), (0,) * (len(told) + 1)):
                with self.assertRaises(TypeError):
                    kind(*wrong)
            with self.assertRaises(TypeError):
                kind(**{word: 0 for word in told}, why=0)

    def test_what_is_passed_is_kept_and_not_changed(self):
        held = [1, [2], {"a": (3,)}]
        error = errors.InvalidTable(held)
        self.assertIs(error.given, held)
        self.assertEqual(held, [1, [2], {"a": (3,)}])
        self.assertEqual(errors.TooMany(BIG).given, BIG)


if __name__ == "__main__":
    unittest.main()
