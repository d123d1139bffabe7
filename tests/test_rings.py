"""Points 2, 3, 4 and 11: even rings, and rows of them laid."""

import unittest

from evenhub.errors import NoRing
from evenhub.rings import laid, ring
from samples import (
    FEW_WHEELS, GREAT, TOLD, WHEELS, assert_load, assert_own_list, assert_refused, even_told, laid_told, primes_of,
    ring_told, some_rows, sum_told,
)


def numbers_without_ring(n):
    primes = primes_of(n)
    return [p for p in list(range(-n - 1, n + 3)) + [421, 997, GREAT, -GREAT, TOLD] if p not in primes]


class Ring(unittest.TestCase):
    def test_written_ones(self):
        for n, p, hole, told in (
            (2, 2, 0, [1, 1]), (3, 3, 2, [1, 1, 1]), (4, 2, 0, [1, 0, 1, 0]), (4, 2, 3, [0, 1, 0, 1]),
            (6, 2, 1, [0, 1, 0, 0, 1, 0]), (6, 3, 1, [0, 1, 0, 1, 0, 1]), (6, 3, -2, [1, 0, 1, 0, 1, 0]),
            (6, 2, 8, [0, 0, 1, 0, 0, 1]), (9, 3, 4, [0, 1, 0, 0, 1, 0, 0, 1, 0]),
        ):
            self.assertEqual(ring(n, p, hole), told)

    def test_each_prime_and_each_hole(self):
        for n in range(1, 61):
            for p in primes_of(n):
                for hole in range(-n - 1, 2 * n + 2):
                    self.assertEqual(ring(n, p, hole), ring_told(n, p, hole), (n, p, hole))

    def test_wheels_up_to_420(self):
        for n in WHEELS:
            for p in primes_of(n):
                for hole in (0, 1, n // p, n - 1, n, -1, -n - 3, GREAT, -GREAT, TOLD):
                    told = ring(n, p, hole)
                    assert_load(self, told, n)
                    self.assertEqual(sum(told), p)
                    self.assertEqual(told, ring_told(n, p, hole))

    def test_rings_are_even(self):
        for n in FEW_WHEELS:
            for p in primes_of(n):
                self.assertTrue(even_told(ring(n, p, 1)))

    def test_what_is_no_prime_of_the_wheel(self):
        for n in (1, 2, 3, 4, 6, 8, 9, 12, 30, 97, 420):
            for p in numbers_without_ring(n):
                for hole in (0, 1, -1):
                    assert_refused(self, NoRing, ring, n, p, hole)

    def test_named_wrong_numbers(self):
        for n, p in ((12, 1), (12, 0), (12, -2), (12, -3), (12, 5), (12, 4), (12, 6), (12, 12), (1, 1), (1, 2)):
            assert_refused(self, NoRing, ring, n, p, 0)


class Laid(unittest.TestCase):
    def test_written_ones(self):
        self.assertEqual(laid(6, [(2, 0, 1), (3, 1, -2)]), [1, -2, 0, -1, 0, -2])
        self.assertEqual(laid(4, [(2, 1, 3), (2, 3, 4), (2, 0, 0)]), [0, 7, 0, 7])

    def test_no_rows(self):
        for n in WHEELS:
            self.assertEqual(laid(n, []), [0] * n)

    def test_many_rows(self):
        for n in WHEELS:
            for count in (1, 2, 7, 50):
                rows = some_rows(n, count)
                told = laid(n, rows)
                assert_load(self, told, n)
                self.assertEqual(told, laid_told(n, rows))

    def test_two_thousand_rows(self):
        for n in (2, 30, 419, 420):
            rows = some_rows(n, 2000, "most")
            self.assertEqual(laid(n, rows), laid_told(n, rows))

    def test_counts_of_any_kind(self):
        for n in FEW_WHEELS:
            for p in primes_of(n):
                for many in (0, 1, -1, 7, -7, GREAT, -GREAT):
                    self.assertEqual(laid(n, [(p, 1, many)]), [many * weight for weight in ring_told(n, p, 1)])
                self.assertTrue(laid(n, [(p, -GREAT, TOLD), (p, -GREAT, -TOLD)]) == [0] * n)
                self.assertTrue(laid(n, [(p, 0, TOLD)])[0] == TOLD)

    def test_counts_of_many_figures(self):
        for n in FEW_WHEELS:
            rows = some_rows(n, 20, "great", most=GREAT)
            self.assertEqual(laid(n, rows), laid_told(n, rows))

    def test_one_row_after_another(self):
        for n in FEW_WHEELS:
            rows = some_rows(n, 9, "first")
            later = some_rows(n, 5, "later")
            self.assertEqual(laid(n, rows + later), sum_told(laid(n, rows), laid(n, later)))

    def test_one_row_of_no_prime_of_the_wheel(self):
        for n in FEW_WHEELS:
            rows = some_rows(n, 4, "refused")
            for p in (1, 0, -1, -2, n * n + n, 4, 6, 421, GREAT, TOLD):
                for many in (0, 1, -3):
                    for place in range(len(rows) + 1):
                        assert_refused(self, NoRing, laid, n, rows[:place] + [(p, 0, many)] + rows[place:])

    def test_wheel_of_one_hole_has_no_ring(self):
        for p in (1, 2, 3, 0, -1):
            assert_refused(self, NoRing, laid, 1, [(p, 0, 0)])


class ListsAreTheAskersOwn(unittest.TestCase):
    def test_of_each_function(self):
        for n in (2, 6, 12, 420):
            for p in primes_of(n):
                assert_own_list(self, ring, n, p, 1)
            assert_own_list(self, laid, n, some_rows(n, 6))
        for n in (1, 6):
            rows = []
            self.assertEqual(laid(n, rows), [0] * n)
            self.assertEqual(rows, [])

    def test_what_is_refused_changes_nothing(self):
        rows = [(2, 0, 1), (5, 0, 1)]
        assert_refused(self, NoRing, laid, 6, rows)
        self.assertEqual(rows, [(2, 0, 1), (5, 0, 1)])
        self.assertEqual(laid(6, [(2, 0, 1)]), [1, 0, 0, 1, 0, 0])


class SomewhatBeyondTheBound(unittest.TestCase):
    def test_nothing_is_refused_for_it(self):
        self.assertEqual(ring(450, 5, 7), ring_told(450, 5, 7))
        rows = some_rows(450, 2100)
        self.assertEqual(laid(450, rows), laid_told(450, rows))


if __name__ == "__main__":
    unittest.main()
