"""Points 2, 3 and 14: the pull of two numbers, and a load pulled at a hole."""

import itertools
import unittest

from evenhub.loads import turned
from evenhub.pulls import pull, pulled
from evenhub.rests import rest
from samples import (
    FEW_WHEELS, GREAT, TOLD, WHEELS, even_told, great_load, laid_told, loads_of, primes_of,
    small_load, some_rows, sum_told,
)


def sign_told(n):
    primes = primes_of(n)
    return 0 if any(n % (p * p) == 0 for p in primes) else (-1) ** len(primes)


SIGNS = [0] + [sign_told(n) for n in range(1, 451)]


def pull_told(n, far):
    return sum(d * SIGNS[n // d] for d in range(1, n + 1) if n % d == 0 and far % d == 0)


def pulled_told(load, hole):
    n = len(load)
    return sum(load[k] * pull_told(n, k - hole) for k in range(n))


class Pull(unittest.TestCase):
    def test_written_ones(self):
        for n, far, told in (
            (1, 0, 1), (1, 5, 1), (2, 0, 1), (2, 1, -1), (3, 0, 2), (3, 1, -1), (4, 0, 2), (4, 1, 0), (4, 2, -2),
            (6, 0, 2), (6, 1, 1), (6, 2, -1), (6, 3, -2), (12, 0, 4), (12, 6, -4), (12, 4, -2), (12, 1, 0),
            (30, 1, -1), (420, 0, 96),
        ):
            self.assertEqual(pull(n, far), told, (n, far))

    def test_against_the_sum(self):
        for n in range(1, 61):
            for far in range(-2 * n - 1, 2 * n + 2):
                told = pull(n, far)
                self.assertIs(type(told), int)
                self.assertEqual(told, pull_told(n, far), (n, far))

    def test_wheels_up_to_420(self):
        for n in WHEELS:
            for far in (0, 1, 2, 6, 35, n - 1, n, n + 1, n // 2, 3 * n, -1, -6, -n, -n - 2, GREAT, -GREAT, n * GREAT):
                self.assertEqual(pull(n, far), pull_told(n, far), (n, far))

    def test_far_of_more_figures_than_python_makes_a_text_of(self):
        for n in FEW_WHEELS:
            for far in (TOLD, -TOLD, 6 * TOLD, n * TOLD):
                self.assertEqual(pull(n, far), pull_told(n, far))


class Pulled(unittest.TestCase):
    def test_written_ones(self):
        self.assertEqual(pulled([5], 0), 5)
        self.assertEqual(pulled([5], -3), 5)
        self.assertEqual(pulled([3, 1], 0), 2)
        self.assertEqual(pulled([3, 1], 1), -2)
        self.assertEqual(pulled([1, 0, 0, 0, 0, 0], 1), 1)

    def test_against_the_sum_over_the_holes(self):
        for n in range(1, 31):
            for load in loads_of(n):
                for hole in range(-n - 1, 2 * n + 1):
                    told = pulled(load, hole)
                    self.assertIs(type(told), int)
                    self.assertEqual(told, pulled_told(load, hole))

    def test_wheels_up_to_420(self):
        for n in WHEELS:
            for load in (small_load(n), great_load(n)):
                for hole in (0, 1, n - 1, -n - 2, GREAT):
                    self.assertEqual(pulled(load, hole), pulled_told(load, hole), n)

    def test_holes_that_lie_farther(self):
        for n in FEW_WHEELS:
            load = great_load(n)
            for hole in (0, 1, n // 2):
                for far in (1, -1, GREAT, -GREAT, TOLD):
                    self.assertEqual(pulled(load, hole + n * far), pulled(load, hole))

    def test_a_load_turned_is_pulled_alike_at_the_turned_hole(self):
        for n in FEW_WHEELS:
            load = great_load(n)
            for hole, far in ((0, 1), (1, -1), (2, n - 1)):
                self.assertEqual(pulled(turned(load, far), hole + far), pulled(load, hole))

    def test_even_loads_are_pulled_nought_at_each_hole(self):
        for n in WHEELS:
            for rows in ([], some_rows(n, 1), some_rows(n, 20, most=GREAT)):
                load = laid_told(n, rows)
                for hole in range(n):
                    self.assertEqual(pulled(load, hole), 0)

    def test_other_loads_are_not(self):
        for n in WHEELS:
            loads = loads_of(n) + [sum_told(laid_told(n, some_rows(n, 9)), [1] + [0] * (n - 1))]
            for load in loads:
                if not even_told(load):
                    self.assertTrue(any(pulled(load, hole) for hole in range(n)), n)

    def test_every_small_load(self):
        for n in range(1, 8):
            for load in itertools.product((-1, 0, 1), repeat=n):
                told = [pulled(list(load), hole) for hole in range(n)]
                self.assertEqual(not any(told), even_told(load), load)

    def test_a_load_is_pulled_as_its_rest(self):
        for n in FEW_WHEELS:
            load = small_load(n)
            left = rest(load)[0]
            for hole in range(min(n, 12)):
                self.assertEqual(pulled(load, hole), pulled(left, hole))

    def test_weights_of_more_figures_than_python_makes_a_text_of(self):
        for n in (1, 2, 6, 12):
            load = [TOLD * (hole + 1) for hole in range(n)]
            for hole in range(n):
                self.assertTrue(pulled(load, hole) == pulled_told(load, hole))


class NothingHandedInIsChanged(unittest.TestCase):
    def test_the_load_stays_and_is_told_anew(self):
        for n in FEW_WHEELS:
            load = small_load(n)
            before = list(load)
            told = pulled(load, 1)
            self.assertEqual(load, before)
            self.assertEqual(pulled(load, 1), told)
            load[0] += 1
            self.assertEqual(pulled(load, 1), pulled_told(load, 1))
            self.assertEqual(pulled(before, 1), told)


class SomewhatBeyondTheBound(unittest.TestCase):
    def test_nothing_is_refused_for_it(self):
        for far in (0, 1, 15, 45, 450, -30):
            self.assertEqual(pull(450, far), pull_told(450, far))
        load = small_load(450)
        self.assertEqual(pulled(load, 7), pulled_told(load, 7))


if __name__ == "__main__":
    unittest.main()
