"""Point [4] and the interface, fourswaps/errors.py."""

import inspect
import unittest

from fourswaps import errors

# Each class with its base class, Python's class above that, and its attributes.
WITH_GIVEN = (
    "InvalidText", "InvalidRow", "InvalidColumns", "InvalidSwap", "InvalidNumber", "InvalidName",
    "InvalidIndex", "InvalidClaim", "InvalidHole", "NotAModel", "NotATable",
)
WITH_INDEX = ("InvalidCounts", "InvalidRows", "InvalidSums", "InvalidPairs")
BASES = {"BadValue": ValueError, "BadName": LookupError, "NoAnswer": ArithmeticError}
CLASSES = {
    **{name: ("BadValue", ("given",)) for name in WITH_GIVEN},
    **{name: ("BadValue", ("index",)) for name in WITH_INDEX},
    "UnknownName": ("BadName", ("given",)),
    "InUse": ("BadName", ("index",)),
    "OtherModels": ("NoAnswer", ()),
    "NotAlike": ("NoAnswer", ()),
    "TooMany": ("NoAnswer", ("limit",)),
    "NothingToUndo": ("NoAnswer", ()),
    "NotAsked": ("NoAnswer", ("index",)),
    "Broken": ("NoAnswer", ("index", "shown")),
}


class Odd:
    """An object that is equal to nothing and cannot be shown."""

    def __eq__(self, other):
        return False

    def __str__(self):
        raise RuntimeError("not to be shown")

    __repr__ = __str__


KEPT = (
    0, 3, -1, 10 ** 30, "", "no text", "two\nlines", b"ab", None, True, False, (), ("a", 1),
    [1, [2]], {"a": 1}, {1, 2}, Odd(), Odd, ValueError("x"), len,
)


def made(name, worths):
    """An error of this class by place, and one by name."""
    error = getattr(errors, name)
    attributes = CLASSES[name][1]
    return error(*worths), error(**dict(zip(attributes, worths)))


class Kept(unittest.TestCase):
    def test_one_attribute_keeps_whatever_is_given(self):
        for name, (_, attributes) in CLASSES.items():
            if len(attributes) != 1:
                continue
            for at, worth in enumerate(KEPT):
                for error in made(name, (worth,)):
                    with self.subTest(name, at=at):
                        self.assertIs(getattr(error, attributes[0]), worth)

    def test_broken_keeps_both_in_the_order_told(self):
        for at, index in enumerate(KEPT):
            for beside, shown in enumerate(KEPT):
                for error in made("Broken", (index, shown)):
                    with self.subTest(at=at, beside=beside):
                        self.assertIs(error.index, index)
                        self.assertIs(error.shown, shown)

    def test_broken_takes_names_in_any_order(self):
        error = errors.Broken(shown="000", index=2)
        self.assertEqual((error.index, error.shown), (2, "000"))
        error = errors.Broken(2, shown=None)
        self.assertEqual((error.index, error.shown), (2, None))

    def test_two_errors_keep_their_own(self):
        for name, (_, attributes) in CLASSES.items():
            first, later = made(name, (1, 2)[:len(attributes)])[0], made(name, (3, 4)[:len(attributes)])[1]
            for at, attribute in enumerate(attributes):
                with self.subTest(name):
                    self.assertEqual((getattr(first, attribute), getattr(later, attribute)), (at + 1, at + 3))

    def test_just_these_attributes_are_kept(self):
        for name, (_, attributes) in CLASSES.items():
            with self.subTest(name):
                self.assertEqual(tuple(vars(made(name, (1, 2)[:len(attributes)])[1])), attributes)

    def test_attributes_cannot_be_left_out_or_called_otherwise(self):
        for name, (_, attributes) in CLASSES.items():
            if attributes:
                with self.subTest(name):
                    self.assertRaises(TypeError, getattr(errors, name))
                    self.assertRaises(TypeError, getattr(errors, name), foreign=1)

    def test_classes_without_attributes_are_made_without_arguments(self):
        for name in ("BadValue", "BadName", "NoAnswer", "OtherModels", "NotAlike", "NothingToUndo"):
            with self.subTest(name):
                self.assertEqual(vars(getattr(errors, name)()), {})


class Bases(unittest.TestCase):
    def test_base_classes_stand_under_pythons(self):
        for name, above in BASES.items():
            with self.subTest(name):
                self.assertEqual(getattr(errors, name).__bases__, (above,))

    def test_each_class_stands_under_its_base_class_alone(self):
        for name, (base, _) in CLASSES.items():
            with self.subTest(name):
                error = getattr(errors, name)
                above = [one for one in error.__mro__[1:] if one.__module__.startswith("fourswaps")]
                self.assertEqual(above, [getattr(errors, base)])
                for other, python in BASES.items():
                    self.assertEqual(issubclass(error, getattr(errors, other)), other == base)
                    self.assertEqual(issubclass(error, python), other == base)

    def test_no_class_is_missing_and_none_is_another_ones_second_name(self):
        found = {name: one for name, one in vars(errors).items() if inspect.isclass(one)}
        self.assertEqual(set(found), set(CLASSES) | set(BASES))
        for name, one in found.items():
            self.assertEqual((one.__name__, one.__module__), (name, "fourswaps.errors"))

    def test_constructors_with_attributes_stand_in_the_class_itself(self):
        for name, (_, attributes) in CLASSES.items():
            with self.subTest(name):
                self.assertEqual("__init__" in vars(getattr(errors, name)), bool(attributes))


class Raised(unittest.TestCase):
    def test_each_is_caught_by_its_classes(self):
        for name, (base, attributes) in CLASSES.items():
            for error in made(name, (5, 6)[:len(attributes)]):
                for above in (getattr(errors, name), getattr(errors, base), BASES[base], Exception):
                    with self.subTest(name, above=above):
                        with self.assertRaises(above) as caught:
                            raise error
                        self.assertIs(caught.exception, error)
                        for at, attribute in enumerate(attributes):
                            self.assertEqual(getattr(error, attribute), at + 5)

    def test_base_classes_are_caught_by_pythons(self):
        for name, above in BASES.items():
            with self.subTest(name), self.assertRaises(above):
                raise getattr(errors, name)()

    def test_no_class_is_caught_by_another_base_class(self):
        for name, (base, attributes) in CLASSES.items():
            others = tuple(getattr(errors, other) for other in BASES if other != base)
            with self.subTest(name):
                self.assertNotIsInstance(made(name, (5, 6)[:len(attributes)])[0], others)


if __name__ == "__main__":
    unittest.main()
