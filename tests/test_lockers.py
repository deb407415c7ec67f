"""Points 7 and 8, and of point 2 what concerns lockers."""

import copy
import itertools
import unittest

from flaglocker.errors import Short, TowerError
from flaglocker.flags import FLAGS
from flaglocker.lockers import plain_locker, put_in, taken


def orders_of(locker):
    return [dict(rows) for rows in itertools.permutations(locker.items())]


class LockerCase(unittest.TestCase):
    def check_told(self, told, locker):
        self.assertIs(type(told), dict)
        self.assertEqual(told, locker)
        for flag, many in told.items():
            self.assertIs(type(flag), str)
            self.assertIs(type(many), int)
            self.assertGreater(many, 0)

    def check_taken(self, locker, flags, left):
        before = copy.deepcopy((locker, flags))
        with self.subTest(locker=locker, flags=flags):
            self.check_told(taken(locker, flags), left)
            self.assertEqual((locker, flags), before)

    def check_short(self, locker, flags, flag):
        before = copy.deepcopy((locker, flags))
        with self.subTest(locker=locker, flags=flags):
            with self.assertRaises(Short) as refusal:
                taken(locker, flags)
            self.assertIs(type(refusal.exception), Short)
            self.assertIsInstance(refusal.exception, TowerError)
            self.assertEqual(refusal.exception.flag, flag)
            self.assertEqual((locker, flags), before)

    def check_put(self, locker, flags, more):
        before = copy.deepcopy((locker, flags))
        with self.subTest(locker=locker, flags=flags):
            self.check_told(put_in(locker, flags), more)
            self.assertEqual((locker, flags), before)


class Plain(LockerCase):
    def test_none_at_all(self):
        self.check_told(plain_locker({}), {})
        self.check_told(plain_locker({"a": 0}), {})
        self.check_told(plain_locker({flag: 0 for flag in FLAGS}), {})

    def test_numbers_of_0_are_left_out(self):
        self.check_told(plain_locker({"a": 0, "b": 2, "1": 0, "4": 1}), {"b": 2, "4": 1})
        self.check_told(plain_locker({"b": 2, "4": 1}), {"b": 2, "4": 1})

    def test_numbers_from_0_to_99_of_each_flag(self):
        for flag in FLAGS:
            self.check_told(plain_locker({flag: 0}), {})
            for many in (1, 2, 50, 98, 99):
                self.check_told(plain_locker({flag: many}), {flag: many})
        self.check_told(plain_locker({flag: 99 for flag in FLAGS}), {flag: 99 for flag in FLAGS})

    def test_alike_lockers_are_told_alike(self):
        for locker in orders_of({"a": 3, "w": 1, "b": 0, "1": 2}):
            self.check_told(plain_locker(locker), {"a": 3, "w": 1, "1": 2})
            self.assertEqual(list(plain_locker(locker)), ["a", "w", "1"])
        self.assertEqual(plain_locker({"a": 1, "b": 0}), plain_locker({"c": 0, "a": 1}))
        self.assertNotEqual(plain_locker({"a": 1, "b": 1}), plain_locker({"a": 1}))

    def test_told_plain_it_stays(self):
        locker = plain_locker({"c": 1, "a": 0, "3": 7})
        self.check_told(plain_locker(locker), locker)

    def test_what_is_told_is_the_askers_own(self):
        locker = {"a": 1, "b": 0}
        told = plain_locker(locker)
        self.assertEqual(locker, {"a": 1, "b": 0})
        told["a"] = 5
        told["c"] = 1
        self.assertEqual(locker, {"a": 1, "b": 0})
        self.assertEqual(plain_locker(locker), {"a": 1})
        locker["a"] = 9
        self.assertEqual(told, {"a": 5, "c": 1})


class Taken(LockerCase):
    def test_one_of_each_flag(self):
        for flag in FLAGS:
            self.check_taken({flag: 2}, [flag], {flag: 1})
            self.check_taken({flag: 1}, [flag], {})
            self.check_short({flag: 0}, [flag], flag)
            self.check_short({}, [flag], flag)

    def test_no_flags(self):
        self.check_taken({}, [], {})
        self.check_taken({"a": 2, "b": 0}, [], {"a": 2})

    def test_several_of_one(self):
        self.check_taken({"a": 99}, ["a"] * 98, {"a": 1})
        self.check_taken({"a": 99}, ["a"] * 99, {})
        self.check_short({"a": 99}, ["a"] * 100, "a")
        self.check_taken({"a": 3, "b": 1, "1": 2}, ["a", "1", "a"], {"a": 1, "b": 1, "1": 1})

    def test_one_by_one(self):
        locker = {"a": 2, "b": 1, "2": 1}
        for flag, left in (("a", {"a": 1, "b": 1, "2": 1}), ("2", {"a": 1, "b": 1}), ("a", {"b": 1}), ("b", {})):
            self.check_taken(locker, [flag], left)
            locker = taken(locker, [flag])
        self.assertEqual(locker, {})

    def test_the_whole_locker_in_any_order(self):
        for flags in itertools.permutations(["a", "a", "w", "1", "4"]):
            self.check_taken({"4": 1, "a": 2, "1": 1, "w": 1, "b": 0}, list(flags), {})

    def test_the_first_flag_lacks(self):
        self.check_short({"b": 1, "c": 1}, ["a", "b", "c"], "a")
        self.check_short({"b": 1, "c": 1}, ["a", "b", "b", "a"], "a")

    def test_one_in_the_midst_lacks(self):
        self.check_short({"a": 1, "c": 1}, ["a", "b", "c"], "b")
        self.check_short({"a": 1, "c": 1}, ["a", "a", "c"], "a")
        self.check_short({"a": 1, "c": 1, "1": 0}, ["a", "1", "c"], "1")

    def test_the_last_one_lacks(self):
        self.check_short({"a": 1, "b": 1}, ["a", "b", "c"], "c")
        self.check_short({"a": 1, "b": 1}, ["a", "b", "a"], "a")
        self.check_short({"a": 1, "b": 1, "4": 2}, ["4", "a", "b", "4", "4"], "4")

    def test_of_several_that_lack_the_first_of_the_list(self):
        self.check_short({"a": 1}, ["w", "b"], "w")
        self.check_short({"a": 1}, ["a", "4", "b", "a"], "4")
        self.check_short({"a": 1, "b": 1}, ["b", "a", "b", "a"], "b")
        self.check_short({"a": 1, "b": 1}, ["b", "a", "a", "b"], "a")

    def test_all_short_lists(self):
        for locker in ({"a": 1, "b": 2}, {"a": 0, "b": 1, "1": 1}, {"1": 3}, {}):
            for many in range(1, 5):
                for flags in itertools.product("ab1", repeat=many):
                    firsts = [flag for at, flag in enumerate(flags) if flags[:at + 1].count(flag) > locker.get(flag, 0)]
                    if firsts:
                        self.check_short(locker, list(flags), firsts[0])
                    else:
                        left = {flag: locker.get(flag, 0) - flags.count(flag) for flag in "ab1"}
                        self.check_taken(locker, list(flags), {flag: left[flag] for flag in left if left[flag] > 0})

    def test_the_lockers_order_does_not_matter(self):
        for locker in orders_of({"a": 1, "b": 2, "1": 1, "c": 0}):
            self.check_taken(locker, ["b", "1"], {"a": 1, "b": 1})
            self.check_short(locker, ["b", "c"], "c")

    def test_what_is_told_is_the_askers_own(self):
        locker, flags = {"a": 2}, []
        told = taken(locker, flags)
        told["a"] = 7
        self.assertEqual((locker, flags), ({"a": 2}, []))
        self.assertEqual(taken(locker, flags), {"a": 2})


class PutIn(LockerCase):
    def test_one_of_each_flag(self):
        for flag in FLAGS:
            self.check_put({}, [flag], {flag: 1})
            self.check_put({flag: 0}, [flag], {flag: 1})
            self.check_put({flag: 98}, [flag], {flag: 99})

    def test_no_flags(self):
        self.check_put({}, [], {})
        self.check_put({"a": 2, "b": 0}, [], {"a": 2})

    def test_flags_that_were_there_and_that_were_not(self):
        self.check_put({"a": 1, "b": 0}, ["b", "a", "1", "b"], {"a": 2, "b": 2, "1": 1})
        self.check_put({"w": 3, "c": 0}, ["4", "4"], {"w": 3, "4": 2})

    def test_what_was_taken_is_put_back(self):
        locker = {"c": 1, "a": 2, "b": 0, "1": 4}
        for flags in (["a"], ["a", "c", "a"], ["1", "1", "1", "1"], ["c", "1", "a"]):
            self.assertEqual(put_in(taken(locker, flags), flags), plain_locker(locker))
            self.assertEqual(taken(put_in(locker, flags), flags), plain_locker(locker))

    def test_the_lockers_order_does_not_matter(self):
        for locker in orders_of({"a": 1, "b": 2, "1": 1, "c": 0}):
            self.check_put(locker, ["d", "b"], {"a": 1, "b": 3, "1": 1, "d": 1})

    def test_what_is_told_is_the_askers_own(self):
        locker, flags = {"a": 2}, ["b"]
        told = put_in(locker, flags)
        told["a"] = 7
        flags.append("b")
        self.assertEqual(told, {"a": 7, "b": 1})
        self.assertEqual((locker, flags), ({"a": 2}, ["b", "b"]))
        self.assertEqual(put_in(locker, []), {"a": 2})


if __name__ == "__main__":
    unittest.main()
