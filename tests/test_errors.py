import unittest

from strayjoins import errors
from tests.values import no_names

FIELDS = {
    "InvalidFrame": ("reason",),
    "InvalidWord": ("name",),
    "InvalidBoard": ("reason",),
    "InvalidAnswer": ("index", "name"),
    "NoBoard": ("index", "name"),
    "InvalidChain": ("reason",),
    "InvalidHurt": ("reason",),
    "InvalidScan": ("index",),
    "InvalidText": ("line", "word"),
    "InvalidCommand": ("word",),
    "Settled": (),
    "NothingToUndo": (),
    "NoLeg": ("name",),
    "NoWord": ("index",),
    "TooMany": ("most",),
}
MISSING = ("NoLeg", "NoWord")
OWN = tuple(FIELDS) + ("JoinError", "MissingError")


def bases_told(name):
    """The errors, other than itself, of which objects of a class are to be."""
    if name == "TooMany":
        return {OverflowError, ArithmeticError}
    if name in MISSING:
        return {errors.MissingError, LookupError}
    return {errors.JoinError, ValueError}


class TheErrors(unittest.TestCase):
    def test_fields_in_order(self):
        for name, fields in FIELDS.items():
            values = list(range(7, 7 + len(fields)))
            error = getattr(errors, name)(*values)
            self.assertEqual([getattr(error, field) for field in fields], values, name)

    def test_fields_by_name(self):
        for name, fields in FIELDS.items():
            values = {field: at for at, field in enumerate(fields)}
            error = getattr(errors, name)(**values)
            self.assertEqual({field: getattr(error, field) for field in fields}, values, name)

    def test_fields_are_kept_as_they_are(self):
        values = no_names()
        for name, fields in FIELDS.items():
            for at, value in enumerate(values):
                given = [value, values[at - 1]][:len(fields)]
                error = getattr(errors, name)(*given)
                for field, one in zip(fields, given):
                    self.assertEqual(getattr(error, field), one, name)
                    self.assertIs(type(getattr(error, field)), type(one), name)

    def test_as_many_values_as_fields(self):
        for name, fields in FIELDS.items():
            if fields:
                self.assertRaises(TypeError, getattr(errors, name), *range(len(fields) - 1))
                self.assertRaises(TypeError, getattr(errors, name), *range(len(fields) + 1))

    def test_classes(self):
        for name, fields in FIELDS.items():
            kind = getattr(errors, name)
            self.assertEqual(set(kind.__mro__[1:]) - {Exception, BaseException, object}, bases_told(name), name)
            for other in OWN:
                above = getattr(errors, other)
                expected = other == name or above in bases_told(name)
                self.assertEqual(isinstance(kind(*fields), above), expected, (name, other))

    def test_none_is_a_key_error_or_an_index_error(self):
        for name in OWN:
            self.assertFalse(issubclass(getattr(errors, name), (KeyError, IndexError)), name)

    def test_base_classes(self):
        self.assertTrue(issubclass(errors.JoinError, ValueError))
        self.assertTrue(issubclass(errors.MissingError, LookupError))
        self.assertFalse(issubclass(errors.JoinError, LookupError))
        self.assertFalse(issubclass(errors.MissingError, ValueError))
        self.assertFalse(issubclass(errors.TooMany, (ValueError, LookupError)))

    def test_defined_in_their_file(self):
        for name in OWN:
            self.assertEqual(getattr(errors, name).__module__, "strayjoins.errors")

    def test_raised_and_caught(self):
        for name, fields in FIELDS.items():
            kind = getattr(errors, name)
            with self.assertRaises(kind) as caught:
                raise kind(*fields)
            self.assertIs(type(caught.exception), kind)
            self.assertIsInstance(str(caught.exception), str)


if __name__ == "__main__":
    unittest.main()
