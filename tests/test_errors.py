import copy
import inspect
import unittest

from plainmark import errors
from plainmark.errors import (
    NoDefinitions, NoEdit, NoLabel, NoSource, NoText, NoTree, PlainmarkError,
)

BARE = (NoDefinitions, NoLabel, NoTree, NoText)
PLACED = ((NoSource, "place"), (NoEdit, "index"))
ALL = BARE + tuple(kind for kind, _ in PLACED)
NUMBERS = (-1, 0, 1, 7, 2 ** 64, -10 ** 30, 10 ** 6000)


def made(kind):
    return kind() if kind in BARE else kind(3)


class Families(unittest.TestCase):
    def test_the_base_is_a_direct_value_error(self):
        self.assertEqual(PlainmarkError.__bases__, (ValueError,))
        self.assertIsInstance(PlainmarkError("a"), ValueError)

    def test_each_class_is_a_direct_subclass_of_the_base(self):
        for kind in ALL:
            self.assertEqual(kind.__bases__, (PlainmarkError,), kind)

    def test_each_error_is_caught_as_itself_and_as_both_bases(self):
        for kind in ALL:
            for caught in (kind, PlainmarkError, ValueError):
                with self.assertRaises(caught):
                    raise made(kind)

    def test_no_error_is_one_of_the_other_classes(self):
        for kind in ALL:
            for other in ALL:
                self.assertEqual(isinstance(made(kind), other), kind is other, (kind, other))

    def test_no_error_is_one_of_pythons_narrower_ones(self):
        for kind in ALL:
            self.assertNotIsInstance(made(kind), (UnicodeError, LookupError, TypeError))

    def test_the_module_has_these_classes_and_no_others(self):
        found = [thing for thing in vars(errors).values() if inspect.isclass(thing)]
        self.assertEqual(set(found), set(ALL) | {PlainmarkError})


class Arguments(unittest.TestCase):
    def test_an_argument_is_kept_by_position(self):
        for kind, name in PLACED:
            for number in NUMBERS:
                self.assertEqual(vars(kind(number)), {name: number})

    def test_an_argument_is_kept_by_name(self):
        for kind, name in PLACED:
            for number in NUMBERS:
                self.assertEqual(vars(kind(**{name: number})), {name: number})

    def test_an_argument_is_kept_when_the_error_is_raised_and_caught(self):
        with self.assertRaises(NoSource) as caught:
            raise NoSource(-1)
        self.assertEqual(caught.exception.place, -1)
        with self.assertRaises(NoEdit) as caught:
            raise NoEdit(index=2)
        self.assertEqual(caught.exception.index, 2)

    def test_an_argument_is_an_integer_as_it_was_passed(self):
        self.assertIs(type(NoSource(0).place), int)
        self.assertIs(type(NoEdit(0).index), int)

    def test_objects_share_nothing(self):
        first, second = NoSource(1), NoSource(2)
        self.assertEqual((first.place, second.place), (1, 2))
        first, second = NoEdit(1), NoEdit(2)
        self.assertEqual((first.index, second.index), (1, 2))

    def test_a_missing_argument_is_refused(self):
        for kind, _ in PLACED:
            with self.assertRaises(TypeError):
                kind()

    def test_arguments_that_are_not_named_are_refused(self):
        for kind in BARE:
            with self.assertRaises(TypeError):
                kind(1)
        for kind, name in PLACED:
            with self.assertRaises(TypeError):
                kind(1, 2)
            with self.assertRaises(TypeError):
                kind(**{"other": 1})

    def test_an_error_without_arguments_has_no_attributes(self):
        for kind in BARE:
            self.assertEqual(vars(kind()), {})

    def test_each_error_can_be_shown_and_copied(self):
        for kind in BARE:
            self.assertIsInstance(str(kind()) + repr(kind()), str)
            self.assertIs(type(copy.copy(kind())), kind)
        for kind, name in PLACED:
            for number in NUMBERS:
                error = kind(**{name: number})
                self.assertIsInstance(str(error) + repr(error), str)
                self.assertEqual(vars(copy.copy(error)), {name: number})


if __name__ == "__main__":
    unittest.main()
