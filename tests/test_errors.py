import unittest

from cellyards import errors
from samples import THINGS

FIELDS = {
    "InvalidNumber": ("thing",),
    "InvalidRoads": ("place",),
    "InvalidCells": ("place",),
    "InvalidYard": ("thing",),
    "InvalidOrder": ("thing",),
    "InvalidRanks": ("thing",),
    "InvalidMove": ("thing",),
    "NotMade": ("order",),
    "NoOrder": ("number",),
    "NoRoad": ("x", "y"),
    "NoCell": ("x",),
    "Blocked": ("thing",),
    "NothingDone": (),
}


class TestErrors(unittest.TestCase):
    def test_yard_error_is_straight_beneath_value_error(self):
        self.assertEqual(errors.YardError.__bases__, (ValueError,))

    def test_each_other_error_is_straight_beneath_yard_error(self):
        for name in FIELDS:
            self.assertEqual(getattr(errors, name).__bases__, (errors.YardError,), name)

    def test_they_are_defined_here_and_there_are_no_others(self):
        classes = [name for name, thing in vars(errors).items() if isinstance(thing, type)]
        self.assertEqual(sorted(classes), sorted([*FIELDS, "YardError"]))
        for name in classes:
            self.assertEqual(getattr(errors, name).__module__, "cellyards.errors")

    def test_fields_by_place_may_be_anything(self):
        for name, fields in FIELDS.items():
            for thing in THINGS:
                error = getattr(errors, name)(*[(thing, at) for at, _ in enumerate(fields)])
                for at, field in enumerate(fields):
                    self.assertEqual(getattr(error, field), (thing, at), name)
                error = getattr(errors, name)(*[thing for _ in fields])
                for field in fields:
                    self.assertEqual(getattr(error, field), thing, name)

    def test_fields_by_name_may_be_anything(self):
        for name, fields in FIELDS.items():
            for thing in THINGS:
                error = getattr(errors, name)(**{field: (thing, field) for field in fields})
                for field in fields:
                    self.assertEqual(getattr(error, field), (thing, field), name)

    def test_fields_are_wanted_and_no_more_of_them(self):
        for name, fields in FIELDS.items():
            with self.assertRaises(TypeError, msg=name):
                getattr(errors, name)(*range(len(fields) + 1))
            if fields:
                with self.assertRaises(TypeError, msg=name):
                    getattr(errors, name)(*range(len(fields) - 1))

    def test_two_fields_are_not_exchanged(self):
        error = errors.NoRoad(3, 4)
        self.assertEqual((error.x, error.y), (3, 4))
        error = errors.NoRoad(y=3, x=4)
        self.assertEqual((error.x, error.y), (4, 3))

    def test_raised_they_are_caught_as_value_errors_and_yard_errors(self):
        for name, fields in FIELDS.items():
            for kind in (ValueError, errors.YardError):
                with self.assertRaises(kind):
                    raise getattr(errors, name)(*[None for _ in fields])

    def test_they_have_a_message_whatever_the_fields_are(self):
        for name, fields in FIELDS.items():
            for thing in THINGS:
                self.assertNotEqual(str(getattr(errors, name)(*[thing for _ in fields])), "")


if __name__ == "__main__":
    unittest.main()
