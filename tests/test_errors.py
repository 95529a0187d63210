"""Point 4: every class of refusal, its base, its fields, its trail."""

import unittest

from loadhall import errors

TRAIL = (("main", 0), ("a.b", 3))

WITHOUT_FIELDS = {
    "NoName": ValueError,
    "NoStore": ValueError,
    "NoFinder": ValueError,
    "NoHand": ValueError,
    "NoLine": ValueError,
}

# of each class its base, and its fields with a worth of each, in the order of the arguments
WITH_FIELDS = {
    "NoBody": (ValueError, {"row": 3}),
    "NotFound": (LookupError, {"name": "a.b"}),
    "NotPack": (LookupError, {"name": "a.b"}),
    "Lacking": (LookupError, {"module": "a.b", "part": "x", "half": True}),
    "Failed": (ArithmeticError, {"word": "sum"}),
    "Lost": (ArithmeticError, {"name": "a.b"}),
    "TooDeep": (ArithmeticError, {"name": "a.b"}),
    "Stuck": (ArithmeticError, {"hand": "main"}),
}


def fields_of(error):
    """Tell the fields of an error, its trail among them."""
    return dict(vars(error))


class Bases(unittest.TestCase):
    def test_each_class_is_straight_beneath_its_base(self):
        bases = {name: base for name, (base, _) in WITH_FIELDS.items()} | WITHOUT_FIELDS
        for name, base in bases.items():
            with self.subTest(name):
                self.assertEqual(getattr(errors, name).__bases__, (base,))

    def test_there_are_no_other_classes(self):
        classes = {name for name, value in vars(errors).items() if isinstance(value, type)}
        self.assertEqual(classes, set(WITHOUT_FIELDS) | set(WITH_FIELDS))

    def test_none_is_beneath_another(self):
        names = list(WITHOUT_FIELDS) + list(WITH_FIELDS)
        for one in names:
            for other in names:
                if one != other:
                    with self.subTest(one=one, other=other):
                        self.assertFalse(issubclass(getattr(errors, one), getattr(errors, other)))


class Fields(unittest.TestCase):
    def test_without_fields(self):
        for name in WITHOUT_FIELDS:
            for error in (getattr(errors, name)(), getattr(errors, name)("a message")):
                with self.subTest(name):
                    self.assertEqual(fields_of(error), {})

    def test_fields_by_place_with_the_trail_left_out(self):
        for name, (_, fields) in WITH_FIELDS.items():
            with self.subTest(name):
                error = getattr(errors, name)(*fields.values())
                self.assertEqual(fields_of(error), {**fields, "trail": ()})

    def test_fields_by_place_with_a_trail(self):
        for name, (_, fields) in WITH_FIELDS.items():
            with self.subTest(name):
                error = getattr(errors, name)(*fields.values(), trail=TRAIL)
                self.assertEqual(fields_of(error), {**fields, "trail": TRAIL})

    def test_fields_by_name(self):
        for name, (_, fields) in WITH_FIELDS.items():
            with self.subTest(name):
                error = getattr(errors, name)(trail=TRAIL, **fields)
                self.assertEqual(fields_of(error), {**fields, "trail": TRAIL})
                self.assertEqual(fields_of(getattr(errors, name)(**fields)), {**fields, "trail": ()})

    def test_a_trail_is_handed_in_by_its_name_alone(self):
        for name, (_, fields) in WITH_FIELDS.items():
            with self.subTest(name), self.assertRaises(TypeError):
                getattr(errors, name)(*fields.values(), TRAIL)

    def test_fields_are_needed(self):
        for name in WITH_FIELDS:
            with self.subTest(name), self.assertRaises(TypeError):
                getattr(errors, name)()

    def test_fields_are_kept_as_they_are(self):
        self.assertIsNone(errors.NoBody(None).row)
        self.assertEqual(errors.NoBody(0).row, 0)
        self.assertIs(errors.Lacking("", "x", False).half, False)
        self.assertIs(errors.Lacking("a", "x", True).half, True)
        self.assertEqual(errors.Lacking("", "x", False).module, "")


class Raised(unittest.TestCase):
    def test_each_is_caught_by_its_class_and_by_its_base(self):
        for name, (base, fields) in WITH_FIELDS.items():
            refusal = getattr(errors, name)
            with self.subTest(name):
                with self.assertRaises(refusal) as caught:
                    raise refusal(*fields.values(), trail=TRAIL)
                self.assertEqual(caught.exception.trail, TRAIL)
                with self.assertRaises(base):
                    raise refusal(*fields.values())

    def test_each_has_a_message(self):
        for name, (_, fields) in WITH_FIELDS.items():
            with self.subTest(name):
                message = str(getattr(errors, name)(**fields))
                for worth in fields.values():
                    if not isinstance(worth, bool):
                        self.assertIn(str(worth), message)


if __name__ == "__main__":
    unittest.main()
