"""[4] the errors."""

import unittest

from firstbore import errors
from samples import example, no_names

WITH_ARGUMENT = [
    (errors.InvalidPlan, "word"),
    (errors.InvalidText, "at"),
    (errors.InvalidWorld, "at"),
    (errors.InvalidLooks, "at"),
    (errors.Refused, "at"),
    (errors.NoName, "name"),
]
WITHOUT_ARGUMENT = [errors.InvalidCommand, errors.NoWorld]
BORE_ERRORS = [kind for kind, name in WITH_ARGUMENT[:5]] + WITHOUT_ARGUMENT


class Bases(unittest.TestCase):
    def test_bore_error_derives_directly_from_value_error(self):
        self.assertEqual(errors.BoreError.__bases__, (ValueError,))

    def test_each_bore_error_derives_directly_from_bore_error(self):
        for kind in BORE_ERRORS:
            with self.subTest(kind=kind):
                self.assertEqual(kind.__bases__, (errors.BoreError,))

    def test_no_name_derives_directly_from_key_error_alone(self):
        self.assertEqual(errors.NoName.__bases__, (KeyError,))
        self.assertFalse(issubclass(errors.NoName, errors.BoreError))
        self.assertFalse(issubclass(errors.NoName, ValueError))

    def test_none_derives_from_another_one(self):
        kinds = BORE_ERRORS + [errors.NoName]
        for kind in kinds:
            for other in kinds:
                with self.subTest(kind=kind, other=other):
                    self.assertEqual(issubclass(kind, other), kind == other)

    def test_no_bore_error_is_a_key_error(self):
        for kind in BORE_ERRORS + [errors.BoreError]:
            with self.subTest(kind=kind):
                self.assertFalse(issubclass(kind, LookupError))


class Arguments(unittest.TestCase):
    def test_argument_is_kept_itself_by_position(self):
        for kind, name in WITH_ARGUMENT:
            for value in no_names() + [object(), {"a": 1}, 1.5]:
                with self.subTest(kind=kind, value=value):
                    self.assertIs(getattr(kind(value), name), value)

    def test_argument_is_kept_itself_by_name(self):
        for kind, name in WITH_ARGUMENT:
            for value in no_names() + [object(), {"a": 1}, 1.5]:
                with self.subTest(kind=kind, value=value):
                    self.assertIs(getattr(kind(**{name: value}), name), value)

    def test_list_that_is_changed_afterwards_is_still_kept(self):
        for kind, name in WITH_ARGUMENT:
            with self.subTest(kind=kind):
                value = [1]
                made = kind(value)
                value.append(2)
                self.assertIs(getattr(made, name), value)
                self.assertEqual(getattr(made, name), [1, 2])

    def test_other_keywords_and_numbers_of_arguments_are_refused(self):
        for kind, name in WITH_ARGUMENT:
            with self.subTest(kind=kind):
                with self.assertRaises(TypeError):
                    kind()
                with self.assertRaises(TypeError):
                    kind(1, 2)
                with self.assertRaises(TypeError):
                    kind(other=1)

    def test_errors_without_arguments_are_made_without(self):
        for kind in WITHOUT_ARGUMENT:
            self.assertIsInstance(kind(), kind)

    def test_errors_are_not_iterable(self):
        for made in [kind(("a", "b")) for kind, name in WITH_ARGUMENT] + [kind() for kind in WITHOUT_ARGUMENT]:
            with self.assertRaises(TypeError):
                iter(made)


class Caught(unittest.TestCase):
    def test_bore_errors_are_caught_as_bore_error_and_value_error(self):
        made = [kind(3) for kind, name in WITH_ARGUMENT[:5]] + [kind() for kind in WITHOUT_ARGUMENT]
        for error in made:
            for base in (errors.BoreError, ValueError):
                with self.subTest(error=error, base=base):
                    with self.assertRaises(base) as caught:
                        raise error
                    self.assertIs(caught.exception, error)

    def test_no_name_is_caught_as_key_error_and_not_as_bore_error(self):
        with self.assertRaises(KeyError):
            try:
                raise errors.NoName("ann")
            except errors.BoreError:
                self.fail("caught as BoreError")

    def test_errors_can_be_shown(self):
        for kind, name in WITH_ARGUMENT:
            for value in ["ann", [1], None, example()]:
                self.assertIsInstance(str(kind(value)), str)
                self.assertIsInstance(repr(kind(**{name: value})), str)


if __name__ == "__main__":
    unittest.main()
