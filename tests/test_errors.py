"""The refusals of measurewise.errors, as the interface tells them."""

import inspect
import unittest

from measurewise import errors

WITHOUT_FIELDS = ("BadNumber", "BadName", "BadUnit", "BadRate", "BadTable", "NoRow")
WITH_FIELDS = {
    "BadText": ("at",),
    "NoName": ("row", "name"),
    "Twice": ("row", "name"),
    "BadCount": ("row", "name"),
    "Steep": ("row",),
    "Clash": ("row", "parts", "modulus"),
    "Unlike": ("one", "other"),
    "Halted": ("word",),
}
ORDINARY = {
    "BadText": (17,),
    "NoName": (3, "m"),
    "Twice": (0, "speed"),
    "BadCount": (15, "f"),
    "Steep": (2,),
    "Clash": (4, ((((0, 1), 0), 1), (((), 1), -2)), 2),
    "Unlike": ((("m", 1),), (("m", 1), ("s", -2))),
    "Halted": ("dry",),
}
ALL = WITHOUT_FIELDS + tuple(WITH_FIELDS)


def made(name):
    return getattr(errors, name)(*ORDINARY.get(name, ()))


class Standing(unittest.TestCase):
    def test_measure_error_is_a_value_error(self):
        self.assertEqual(errors.MeasureError.__bases__, (ValueError,))
        with self.assertRaises(ValueError):
            raise errors.MeasureError("refused")

    def test_each_stands_straight_under_measure_error(self):
        for name in ALL:
            with self.subTest(name=name):
                self.assertEqual(getattr(errors, name).__bases__, (errors.MeasureError,))

    def test_there_are_just_the_told_ones(self):
        found = [name for name, thing in vars(errors).items() if inspect.isclass(thing)]
        self.assertEqual(sorted(found), sorted(ALL + ("MeasureError",)))

    def test_each_is_called_by_its_name(self):
        for name in ALL + ("MeasureError",):
            self.assertEqual(getattr(errors, name).__name__, name)

    def test_each_is_caught_by_its_own_name_and_by_those_above_alone(self):
        for name in ALL:
            for other in ALL:
                with self.subTest(raised=name, caught=other):
                    self.assertEqual(isinstance(made(name), getattr(errors, other)), name == other)
            for above in (errors.MeasureError, ValueError):
                with self.subTest(raised=name, caught=above):
                    with self.assertRaises(above):
                        raise made(name)


class Fields(unittest.TestCase):
    def test_without_fields_words_are_free(self):
        for name in WITHOUT_FIELDS + ("MeasureError",):
            with self.subTest(name=name):
                self.assertIsInstance(getattr(errors, name)(), errors.MeasureError)
                self.assertIsInstance(getattr(errors, name)("some words"), errors.MeasureError)

    def test_fields_are_handed_in_in_the_told_order(self):
        for name, fields in WITH_FIELDS.items():
            with self.subTest(name=name):
                error = made(name)
                self.assertEqual(tuple(getattr(error, field) for field in fields), ORDINARY[name])

    def test_fields_bear_the_told_names(self):
        for name, fields in WITH_FIELDS.items():
            with self.subTest(name=name):
                self.assertEqual(tuple(inspect.signature(getattr(errors, name)).parameters), fields)

    def test_just_the_told_fields_are_there(self):
        for name, fields in WITH_FIELDS.items():
            with self.subTest(name=name):
                self.assertEqual(sorted(vars(made(name))), sorted(fields))

    def test_none_and_nought_are_kept_in_fields(self):
        self.assertIsNone(errors.BadText(None).at)
        self.assertEqual(errors.BadText(0).at, 0)
        self.assertIsNone(errors.NoName(None, "m").row)
        self.assertIsNone(errors.Twice(None, "m").row)
        self.assertEqual(errors.Clash(0, (), 0).modulus, 0)
        self.assertEqual((errors.Unlike((), (("m", 1),)).one, errors.Unlike((), (("m", 1),)).other), ((), (("m", 1),)))

    def test_each_object_has_its_own_fields(self):
        one = errors.NoName(1, "a")
        other = errors.NoName(2, "b")
        self.assertEqual((one.row, one.name, other.row, other.name), (1, "a", 2, "b"))

    def test_fields_are_there_when_caught(self):
        with self.assertRaises(errors.Clash) as caught:
            raise errors.Clash(1, ((((), 0), 1),), 0)
        self.assertEqual((caught.exception.row, caught.exception.parts, caught.exception.modulus),
                         (1, ((((), 0), 1),), 0))

    def test_a_missing_field_is_not_made_up(self):
        for name, fields in WITH_FIELDS.items():
            with self.subTest(name=name):
                with self.assertRaises(TypeError):
                    getattr(errors, name)(*ORDINARY[name][:-1])


if __name__ == "__main__":
    unittest.main()
