"""Promise 9: the error classes."""

import unittest

from lowsure import errors

LOW = {
    "InvalidText": ("at",),
    "InvalidNode": (),
    "InvalidLibrary": ("word", "function", "row"),
    "NotOdd": ("name", "point"),
    "TooMany": ("count",),
    "Mismatch": (),
    "NoTable": ("at",),
    "NotOneToOne": ("bits", "state", "other"),
    "InvalidCode": ("word", "row"),
    "CannotMake": ("word",),
    "InvalidRow": (),
}


class ErrorsTest(unittest.TestCase):

    def test_bases(self):
        self.assertEqual(errors.LowError.__bases__, (ValueError,))
        for name in LOW:
            self.assertEqual(getattr(errors, name).__bases__, (errors.LowError,), name)

    def test_unknown_name_is_a_key_error_only(self):
        self.assertEqual(errors.UnknownName.__bases__, (KeyError,))
        self.assertFalse(issubclass(errors.UnknownName, ValueError))

    def test_attributes_by_position_and_by_name(self):
        values = [object(), [1, 2], None]
        for name, attributes in [*LOW.items(), ("UnknownName", ("name",))]:
            made = getattr(errors, name)
            given = values[:len(attributes)]
            for error in (made(*given), made(**dict(zip(attributes, given)))):
                for attribute, value in zip(attributes, given):
                    self.assertIs(getattr(error, attribute), value, name)

    def test_missing_arguments_are_refused(self):
        for name, attributes in LOW.items():
            if attributes:
                with self.assertRaises(TypeError):
                    getattr(errors, name)()

    def test_the_base_class_catches_all_but_unknown_name(self):
        for name, attributes in LOW.items():
            with self.assertRaises(errors.LowError):
                raise getattr(errors, name)(*range(len(attributes)))
        with self.assertRaises(KeyError):
            raise errors.UnknownName("f")


if __name__ == "__main__":
    unittest.main()
