"""Points 2, 3, 19, 20 and 21: sums of primes, loads stacked, and wheels with more than two primes."""

import itertools
import unittest

from evenhub.errors import NoWheel
from evenhub.rings import laid
from evenhub.stacks import prime_sum, stacked
from samples import (
    GREAT, TOLD, assert_own_list, assert_refused, assert_rows, chance, even_told, laid_told, primes_of, ring_told,
    some_rows, sum_told,
)

MOST = 420
NARROW = [n for n in range(1, MOST + 1) if len(primes_of(n)) <= 2]
WIDE = [n for n in range(1, MOST + 1) if len(primes_of(n)) > 2]
FEW_NARROW = (
    1, 2, 3, 4, 5, 6, 8, 9, 10, 12, 15, 18, 25, 36, 77, 97, 128, 144, 200, 209, 243, 289, 323, 392, 400, 419,
)


def is_sum(primes, many):
    return any(
        sum(p * count for p, count in zip(primes, counts)) == many
        for counts in itertools.product(*[range(many // p + 1) for p in primes])
    )


def stacking_rows(n, count, *words, most=9):
    return [(p, hole, abs(many) + 1) for p, hole, many in some_rows(n, count, *words, most=most)]


class PrimeSum(unittest.TestCase):
    def assert_sum(self, n, many):
        told = prime_sum(n, many)
        self.assertIs(type(told), list)
        self.assertEqual(len(told), len(primes_of(n)))
        for count in told:
            self.assertIs(type(count), int)
            self.assertGreaterEqual(count, 0)
        self.assertTrue(sum(p * count for p, count in zip(primes_of(n), told)) == many)

    def test_written_ones(self):
        for n, many, told in (
            (1, 0, []), (1, 1, None), (1, -1, None), (2, 0, [0]), (2, 6, [3]), (2, 5, None), (8, 10, [5]), (9, 9, [3]),
            (6, 0, [0, 0]), (6, 1, None), (6, 2, [1, 0]), (6, 3, [0, 1]), (6, 5, [1, 1]), (15, 7, None),
            (15, 8, [1, 1]), (6, -2, None), (35, 23, None), (35, 24, [2, 2]),
        ):
            self.assertEqual(prime_sum(n, many), told, (n, many))

    def test_just_the_sums_have_a_list(self):
        for n in [n for n in NARROW if n <= 66] + [77, 121, 143, 187, 323, 391, 397, 400]:
            primes = primes_of(n)
            for many in range(-5, 140):
                if many >= 0 and is_sum(primes, many):
                    self.assert_sum(n, many)
                else:
                    self.assertIsNone(prime_sum(n, many), (n, many))

    def test_every_wheel_with_at_most_two_primes(self):
        for n in NARROW:
            primes = primes_of(n)
            self.assert_sum(n, 0)
            self.assertIsNone(prime_sum(n, 1))
            for p in primes:
                self.assert_sum(n, p)
                self.assert_sum(n, 5 * p)
            self.assert_sum(n, sum(primes))
            if len(primes) == 2:
                # The greatest that is no sum of both, and the next ones.
                last = primes[0] * primes[1] - sum(primes)
                self.assertIsNone(prime_sum(n, last), n)
                for more in range(1, 6):
                    self.assert_sum(n, last + more)

    def test_below_nought(self):
        for n in NARROW:
            for many in (-1, -2, -n, -6, -GREAT, -TOLD, -n * GREAT):
                self.assertIsNone(prime_sum(n, many))

    def test_many_figures(self):
        for n in FEW_NARROW:
            primes = primes_of(n)
            for many in (GREAT, 6 * GREAT, n * GREAT, TOLD, n * TOLD, TOLD - 1):
                if len(primes) == 2 or (primes and many % primes[0] == 0):
                    self.assert_sum(n, many)
                else:
                    self.assertIsNone(prime_sum(n, many))

    def test_wheel_of_one_hole(self):
        self.assertEqual(prime_sum(1, 0), [])
        for many in (1, -1, 2, 7, GREAT, -GREAT, TOLD):
            self.assertIsNone(prime_sum(1, many))

    def test_more_than_two_primes(self):
        self.assertIn(30, WIDE)
        self.assertIn(210, WIDE)
        for n in WIDE:
            for many in (0, 1, 2, 31, -1, GREAT, -GREAT):
                assert_refused(self, NoWheel, prime_sum, n, many)


class Stacked(unittest.TestCase):
    def assert_stacked(self, load):
        n = len(load)
        told = stacked(load)
        self.assertIsNotNone(told)
        assert_rows(self, n, told)
        self.assertTrue(all(many >= 1 for p, hole, many in told))
        self.assertTrue(laid_told(n, told) == load)
        self.assertTrue(laid(n, told) == load)

    def test_written_ones(self):
        for load, told in (
            ([0], []), ([1], None), ([-1], None), ([0, 0], []), ([3, 3], [(2, 0, 3)]), ([1, 2], None), ([-1, -1], None),
            ([0, 5, 0, 5], [(2, 1, 5)]), ([1, 0, 0, 1, 0, 0], [(2, 0, 1)]), ([1, 0, 1, 0, 1, 0], [(3, 0, 1)]),
            ([1, 0, 0, 0, 0, 0], None),
        ):
            self.assertEqual(stacked(load), told, load)

    def test_sums_of_rings(self):
        for n in NARROW:
            for count in (0, 1, 2, 9, 40):
                self.assert_stacked(laid_told(n, stacking_rows(n, count, "sums")))

    def test_sums_of_rings_taken_so_many_times_as_have_many_figures(self):
        for n in FEW_NARROW:
            self.assert_stacked(laid_told(n, stacking_rows(n, 30, "great", most=GREAT)))
            self.assert_stacked(laid_told(n, [(p, -TOLD, TOLD + 1) for p in primes_of(n)]))

    def test_one_ring(self):
        for n in range(2, 50):
            if len(primes_of(n)) <= 2:
                for p in primes_of(n):
                    for hole in range(-n, n):
                        self.assert_stacked(ring_told(n, p, hole))

    def test_loads_that_are_even_but_have_a_weight_below_nought(self):
        for n in NARROW:
            for p in primes_of(n):
                self.assertIsNone(stacked([-weight for weight in ring_told(n, p, 1)]))
            for number in range(4):
                rows = some_rows(n, 9, "below", number)
                load = laid_told(n, rows)
                self.assertTrue(even_told(load))
                if min(load) < 0:
                    self.assertIsNone(stacked(load))
                else:
                    self.assert_stacked(load)
        # One weight below nought among great ones.
        self.assertIsNone(stacked([-1, 9, 9, 9, 19, 9]))
        for n in (6, 12, 15):
            load = [GREAT - weight * (GREAT + 1) for weight in ring_told(n, 3, 0)]
            self.assertTrue(even_told(load))
            self.assertIsNone(stacked(load))

    def test_loads_that_rows_below_nought_alone_seem_to_make(self):
        # Even, without a weight below 0, though the rows that told it were below 0 in part.
        for n in NARROW:
            rows = some_rows(n, 12, "seem")
            load = laid_told(n, rows)
            raised = [weight - min(load) for weight in load] if n > 1 else load
            self.assertTrue(even_told(raised))
            self.assert_stacked(raised)
            great = laid_told(n, some_rows(n, 12, "seem", most=GREAT))
            self.assert_stacked([weight - min(great) for weight in great])

    def test_loads_that_are_not_even(self):
        for n in NARROW:
            load = laid_told(n, stacking_rows(n, 9, "uneven"))
            for hole in {0, n // 2, n - 1}:
                for by in (1, 7, GREAT):
                    changed = [weight + by * (k == hole) for k, weight in enumerate(load)]
                    self.assertFalse(even_told(changed))
                    self.assertIsNone(stacked(changed), n)

    def test_every_small_load(self):
        for n, most in ((1, 5), (2, 5), (3, 4), (4, 3), (5, 2), (6, 3), (8, 1), (9, 1), (10, 1), (12, 1)):
            for load in itertools.product(range(-1 if n < 7 else 0, most + 1), repeat=n):
                if min(load) >= 0 and even_told(load):
                    self.assert_stacked(list(load))
                else:
                    self.assertIsNone(stacked(list(load)), load)

    def test_wheel_of_one_hole(self):
        self.assertEqual(stacked([0]), [])
        for weight in (1, -1, 5, GREAT, -GREAT):
            self.assertIsNone(stacked([weight]))

    def test_more_than_two_primes(self):
        for n in WIDE:
            source = chance("wide", n)
            for load in (
                [0] * n, [1] * n, [-1] * n, ring_told(n, primes_of(n)[0], 0), [source.randint(-9, 9) for k in range(n)],
                [1] + [0] * (n - 1),
            ):
                assert_refused(self, NoWheel, stacked, load)


class ListsAreTheAskersOwn(unittest.TestCase):
    def test_of_sums(self):
        for n, many in ((1, 0), (2, 0), (2, 8), (6, 0), (6, 17), (15, 8), (15, GREAT), (6, 1), (6, -1)):
            assert_own_list(self, prime_sum, n, many)

    def test_of_stacks(self):
        for n in (1, 2, 6, 12, 36, 400):
            for load in ([0] * n, [5] * n, laid_told(n, stacking_rows(n, 9)), [1] + [0] * (n - 1), [-1] * n):
                assert_own_list(self, stacked, load)

    def test_the_same_for_the_same(self):
        for n in FEW_NARROW:
            load = laid_told(n, stacking_rows(n, 20, most=GREAT))
            self.assertEqual(stacked(load), stacked(list(load)))
            self.assertEqual(prime_sum(n, 6 * GREAT), prime_sum(n, 6 * GREAT))


class SomewhatBeyondTheBound(unittest.TestCase):
    def test_nothing_is_refused_for_it(self):
        for n in (423, 432, 441):
            load = laid_told(n, stacking_rows(n, 20))
            told = stacked(load)
            self.assertEqual(laid_told(n, told), load)
            self.assertIsNone(stacked(sum_told(load, [1] + [0] * (n - 1))))
            self.assertEqual(sum(p * count for p, count in zip(primes_of(n), prime_sum(n, 600))), 600)
        assert_refused(self, NoWheel, stacked, [0] * 450)


if __name__ == "__main__":
    unittest.main()
