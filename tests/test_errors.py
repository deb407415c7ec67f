"""The refusals of the interface: where they stand, and their fields."""

import copy
import unittest

from flaglocker import errors

MADE_OF = {
    "NoHoist": ("some words",),
    "Short": ("a",),
    "Lack": ([(0, 1), (0, 2)], ["a", "1"]),
    "NoBook": (3,),
    "NoCut": (0,),
    "NoText": ("some words",),
    "NoWord": (5,),
    "NoHalyard": ("some words",),
    "NoFlag": ("some words",),
    "NoDeed": ("some words",),
    "NoRow": ("some words",),
}
FIELDS = {
    "Short": ("flag",),
    "Lack": ("wants", "flags"),
    "NoBook": ("at",),
    "NoCut": ("terms",),
    "NoWord": ("at",),
}


def made(name):
    return getattr(errors, name)(*copy.deepcopy(MADE_OF[name]))


class Standing(unittest.TestCase):
    def test_there_are_eleven_refusals(self):
        self.assertEqual(len(MADE_OF), 11)

    def test_tower_error_stands_right_under_value_error(self):
        self.assertEqual(errors.TowerError.__bases__, (ValueError,))
        with self.assertRaises(ValueError):
            raise errors.TowerError("some words")

    def test_each_stands_right_under_tower_error(self):
        for name in MADE_OF:
            with self.subTest(name=name):
                self.assertEqual(getattr(errors, name).__bases__, (errors.TowerError,))

    def test_tower_error_and_value_error_take_each(self):
        for name in MADE_OF:
            for taker in (errors.TowerError, ValueError, getattr(errors, name)):
                with self.subTest(name=name, taker=taker):
                    with self.assertRaises(taker):
                        raise made(name)

    def test_none_is_another_one(self):
        for name in MADE_OF:
            for other in MADE_OF:
                with self.subTest(name=name, other=other):
                    self.assertEqual(isinstance(made(name), getattr(errors, other)), name == other)


class Fields(unittest.TestCase):
    def test_fields_are_those_it_was_made_of(self):
        for name, fields in FIELDS.items():
            for field, value in zip(fields, MADE_OF[name], strict=True):
                with self.subTest(name=name, field=field):
                    self.assertEqual(getattr(made(name), field), value)
                    self.assertIs(type(getattr(made(name), field)), type(value))

    def test_fields_are_there_when_it_is_taken(self):
        for name, fields in FIELDS.items():
            with self.subTest(name=name):
                with self.assertRaises(errors.TowerError) as taken:
                    raise made(name)
                self.assertEqual(tuple(getattr(taken.exception, field) for field in fields), MADE_OF[name])

    def test_fields_can_be_named_when_it_is_made(self):
        self.assertEqual(errors.Short(flag="w").flag, "w")
        lack = errors.Lack(wants=[(1, 2)], flags=["b"])
        self.assertEqual((lack.wants, lack.flags), ([(1, 2)], ["b"]))
        self.assertEqual(errors.NoBook(at=60).at, 60)
        self.assertEqual(errors.NoWord(at=1).at, 1)
        self.assertEqual(errors.NoCut(terms=2).terms, 2)

    def test_two_of_one_class_have_their_own_fields(self):
        first, second = errors.Short("a"), errors.Short("b")
        self.assertEqual((first.flag, second.flag), ("a", "b"))

    def test_lists_handed_in_stay_and_are_not_shared(self):
        wants, flags = [(0, 1)], ["a"]
        lack = errors.Lack(wants, flags)
        self.assertEqual((wants, flags), ([(0, 1)], ["a"]))
        wants.append((0, 2))
        flags.clear()
        self.assertEqual((lack.wants, lack.flags), ([(0, 1)], ["a"]))
        lack.wants.clear()
        lack.flags.append("b")
        self.assertEqual((wants, flags), ([(0, 1), (0, 2)], []))

    def test_a_copy_has_the_same_fields(self):
        for name, fields in FIELDS.items():
            with self.subTest(name=name):
                twin = copy.copy(made(name))
                self.assertEqual(tuple(getattr(twin, field) for field in fields), MADE_OF[name])


if __name__ == "__main__":
    unittest.main()
