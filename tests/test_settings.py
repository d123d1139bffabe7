"""Points 2, 3, 19 and 22: settings of many like weights, and wheels with more than two primes."""

import itertools
import unittest

from evenhub.errors import NoWheel
from evenhub.papers import is_even
from evenhub.settings import setting
from evenhub.stacks import prime_sum, stacked
from samples import GREAT, TOLD, assert_load, assert_own_list, assert_refused, even_told, primes_of

MOST = 420
NARROW = [n for n in range(1, MOST + 1) if len(primes_of(n)) <= 2]
WIDE = [n for n in range(1, MOST + 1) if len(primes_of(n)) > 2]
FEW_NARROW = (1, 2, 3, 4, 6, 9, 10, 12, 15, 36, 77, 97, 209, 289, 323, 400, 419)


def sums_up_to(primes, most):
    # Whether each number from 0 to most is a sum of these primes, told from the lesser ones.
    found = [True] + [False] * most
    for many in range(1, most + 1):
        found[many] = any(many >= p and found[many - p] for p in primes)
    return found


class Setting(unittest.TestCase):
    def assert_setting(self, n, many, even=even_told):
        told = setting(n, many)
        self.assertIsNotNone(told, (n, many))
        assert_load(self, told, n)
        self.assertTrue(all(weight in (0, 1) for weight in told), (n, many))
        self.assertEqual(sum(told), many)
        self.assertTrue(even(told), (n, many))

    def assert_just_the_sums(self, n, even):
        sums = sums_up_to(primes_of(n), n)
        for many in range(-4, n + 5):
            if 0 <= many <= n and sums[many] and sums[n - many]:
                self.assert_setting(n, many, even)
            else:
                self.assertIsNone(setting(n, many), (n, many))

    def test_written_ones(self):
        for n, many, told in (
            (1, 0, [0]), (1, 1, None), (1, -1, None), (1, 2, None), (2, 0, [0, 0]), (2, 1, None), (2, 2, [1, 1]),
            (2, 3, None), (2, 4, None), (2, -2, None), (3, 0, [0, 0, 0]), (3, 1, None), (3, 2, None), (3, 3, [1, 1, 1]),
            (3, 6, None), (6, 0, [0] * 6), (6, 1, None), (6, 5, None), (6, 6, [1] * 6), (6, 7, None), (6, 8, None),
        ):
            self.assertEqual(setting(n, many), told, (n, many))
        for n, many in ((4, 2), (6, 2), (6, 3), (6, 4), (12, 5), (12, 7), (15, 3), (15, 5), (15, 9), (15, 10)):
            self.assert_setting(n, many)
        # 8 is a sum of 3 and 5, but the 7 that are left out are none.
        for n, many in ((15, 8), (15, 7), (15, 1), (15, 14), (15, 11), (15, 13), (10, 7), (10, 3), (12, 1), (12, 11)):
            self.assertIsNone(setting(n, many), (n, many))

    def test_wheel_of_one_hole(self):
        self.assertEqual(setting(1, 0), [0])
        for many in (1, -1, 2, 7, GREAT, -GREAT, TOLD, -TOLD):
            self.assertIsNone(setting(1, many))

    def test_every_many_on_every_wheel_with_at_most_two_primes(self):
        for n in NARROW:
            if n > 1:
                self.assert_just_the_sums(n, even_told if n <= 60 else is_even)

    def test_evenness_told_in_the_second_way_on_greater_wheels(self):
        for n in (72, 77, 91, 100, 121, 144, 209, 243, 289, 323, 400, 419):
            sums = sums_up_to(primes_of(n), n)
            found = [many for many in range(n + 1) if sums[many] and sums[n - many]]
            for many in found[:4] + found[len(found) // 2:][:4] + found[-4:]:
                self.assert_setting(n, many)

    def test_against_all_loads_of_0_and_1(self):
        for n in [n for n in NARROW if n <= 15]:
            counts = {sum(load) for load in itertools.product((0, 1), repeat=n) if even_told(load)}
            for many in range(-3, n + 4):
                self.assertEqual(setting(n, many) is not None, many in counts, (n, many))

    def test_those_left_out_are_a_setting_too(self):
        for n in FEW_NARROW[1:]:
            for many in range(n + 1):
                told = setting(n, many)
                self.assertEqual(told is None, setting(n, n - many) is None)
                if told is not None:
                    self.assertIsNotNone(prime_sum(n, many))
                    self.assertIsNotNone(stacked([1 - weight for weight in told]))

    def test_many_of_many_figures(self):
        for n in FEW_NARROW:
            for many in (GREAT, -GREAT, n * GREAT, -n * GREAT, TOLD, -TOLD, n * TOLD, n - TOLD, 6 * TOLD):
                self.assertIsNone(setting(n, many))

    def test_more_than_two_primes(self):
        self.assertIn(30, WIDE)
        self.assertIn(210, WIDE)
        self.assertIn(420, WIDE)
        for n in WIDE:
            for many in (0, 1, 2, 5, n // 2, n - 1, n, n + 1, -1, -n, GREAT, -GREAT, TOLD):
                assert_refused(self, NoWheel, setting, n, many)


class ListsAreTheAskersOwn(unittest.TestCase):
    def test_of_settings(self):
        for n, many in (
            (1, 0), (1, 1), (2, 0), (2, 1), (2, 2), (6, 0), (6, 2), (6, 3), (6, 6), (12, 5), (12, 7), (15, 8), (36, 17),
            (400, 199), (6, -1), (6, GREAT),
        ):
            assert_own_list(self, setting, n, many)

    def test_the_same_for_the_same(self):
        for n in FEW_NARROW:
            for many in range(0, n + 1, 7):
                self.assertEqual(setting(n, many), setting(n, many))


class SomewhatBeyondTheBound(unittest.TestCase):
    def test_nothing_is_refused_for_it(self):
        for n in (423, 432, 441):
            sums = sums_up_to(primes_of(n), n)
            for many in range(0, n + 1, 5):
                told = setting(n, many)
                self.assertEqual(told is not None, sums[many] and sums[n - many])
                self.assertTrue(told is None or (sum(told) == many and set(told) <= {0, 1} and is_even(told)))
        assert_refused(self, NoWheel, setting, 450, 0)


if __name__ == "__main__":
    unittest.main()
