"""The errors: their classes and fields."""

import unittest

from nobodystays import errors

FIELDS = {
    "BadHouse": ("part",),
    "BadTurn": (),
    "BadRow": ("index",),
    "BadNumber": (),
    "NotWhole": (),
    "NotSingle": (),
    "NotWithin": (),
    "Unlike": (),
    "BadText": (),
    "BadLine": ("line", "word"),
    "BadStep": (),
    "TooMany": ("most",),
}


class ErrorClasses(unittest.TestCase):
    def test_base_is_a_value_error(self):
        self.assertEqual(errors.TurnError.__bases__, (ValueError,))

    def test_each_is_a_direct_subclass_defined_there(self):
        for name in FIELDS:
            with self.subTest(name):
                made = getattr(errors, name)
                self.assertEqual(made.__bases__, (errors.TurnError,))
                self.assertEqual(made.__module__, "nobodystays.errors")

    def test_there_are_no_others(self):
        self.assertEqual({made.__name__ for made in errors.TurnError.__subclasses__()}, set(FIELDS))

    def test_fields_by_position(self):
        for name, fields in FIELDS.items():
            with self.subTest(name):
                values = tuple(range(7, 7 + len(fields)))
                error = getattr(errors, name)(*values)
                self.assertEqual(tuple(getattr(error, field) for field in fields), values)
                self.assertEqual(vars(error), dict(zip(fields, values)))

    def test_fields_by_name(self):
        for name, fields in FIELDS.items():
            with self.subTest(name):
                values = {field: at for at, field in enumerate(fields)}
                self.assertEqual(vars(getattr(errors, name)(**values)), values)

    def test_fields_are_needed(self):
        for name, fields in FIELDS.items():
            if fields:
                with self.subTest(name), self.assertRaises(TypeError):
                    getattr(errors, name)()


if __name__ == "__main__":
    unittest.main()
