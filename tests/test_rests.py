"""Points 2, 3, 12 and 13: the shares of a hole, the kept holes, the rest of a load with its rows."""

import itertools
import unittest
from math import gcd

from evenhub.loads import finer, plus, scaled
from evenhub.rests import is_kept, kept, rest, shares
from evenhub.rings import laid
from samples import (
    FEW_WHEELS, GREAT, TOLD, WHEELS, assert_load, assert_own_list, assert_rows, even_told, great_load, laid_told,
    loads_of, parts_told, shares_by_hole, small_load, some_rows, sum_told,
)

MOST = 420


def kept_by_tops(n, told):
    return all(c // (q // p) != p - 1 for c, (p, q) in zip(told, parts_told(n)))


class Shares(unittest.TestCase):
    def test_written_ones(self):
        for n, hole, told in (
            (1, 0, []), (1, 5, []), (2, 1, [1]), (4, 3, [3]), (6, 0, [0, 0]), (6, 1, [1, 2]), (6, 2, [0, 1]),
            (6, 3, [1, 0]), (6, 5, [1, 1]), (6, -1, [1, 1]), (12, 7, [1, 1]), (12, 1, [3, 1]), (9, 20, [2]),
        ):
            self.assertEqual(shares(n, hole), told)

    def test_each_hole_of_every_wheel_has_just_one_list(self):
        for n in range(1, MOST + 1):
            for hole, found in shares_by_hole(n).items():
                self.assertEqual([shares(n, hole)], found, (n, hole))

    def test_holes_that_lie_farther(self):
        for n in WHEELS:
            for hole in (0, 1, n // 2, n - 1):
                told = shares(n, hole)
                self.assertIs(type(told), list)
                for far in (1, -1, 2, -7, GREAT, -GREAT, TOLD):
                    self.assertEqual(shares(n, hole + n * far), told)


class Kept(unittest.TestCase):
    def test_written_ones(self):
        for n, told in (
            (1, [0]), (2, [0]), (3, [0, 1]), (4, [0, 1]), (5, [0, 1, 2, 3]), (6, [0, 2]), (8, [0, 1, 2, 3]),
            (9, [0, 1, 2, 3, 4, 5]), (12, [0, 3, 4, 7]),
        ):
            self.assertEqual(kept(n), told)

    def test_against_the_tops_of_the_shares(self):
        for n in range(1, MOST + 1):
            told = kept(n)
            self.assertIs(type(told), list)
            by_hole = shares_by_hole(n)
            self.assertEqual(told, [hole for hole in range(n) if kept_by_tops(n, by_hole[hole][0])], n)

    def test_how_many_are_kept(self):
        for n in range(1, MOST + 1):
            self.assertEqual(len(kept(n)), sum(1 for k in range(1, n + 1) if gcd(k, n) == 1), n)

    def test_whether_one_is_kept(self):
        for n in WHEELS:
            holes = kept(n)
            for hole in range(-n, 2 * n):
                told = is_kept(n, hole)
                self.assertIs(type(told), bool)
                self.assertEqual(told, hole % n in holes, (n, hole))

    def test_holes_that_lie_farther(self):
        for n in WHEELS:
            for hole in (0, 1, n // 2, n - 1):
                for far in (1, -1, GREAT, -GREAT, TOLD):
                    self.assertIs(is_kept(n, hole + n * far), is_kept(n, hole))

    def test_wheel_of_one_hole_keeps_every_hole(self):
        self.assertEqual(kept(1), [0])
        for hole in (0, 1, -1, 5, GREAT, TOLD):
            self.assertIs(is_kept(1, hole), True)


class Rest(unittest.TestCase):
    def assert_rest(self, load):
        n = len(load)
        told = rest(load)
        self.assertIs(type(told), tuple)
        left, rows = told
        assert_load(self, left, n)
        assert_rows(self, n, rows)
        holes = kept(n)
        self.assertFalse(any(weight for hole, weight in enumerate(left) if hole not in holes))
        # Not through `laid` alone, so that a fault there can't hide one here.
        self.assertTrue(sum_told(left, laid_told(n, rows)) == load)
        self.assertTrue(plus(left, laid(n, rows)) == load)

    def test_written_ones(self):
        for load, left in (
            ([5], [5]), ([0], [0]), ([2, 7], [-5, 0]), ([1, 1, 1], [0, 0, 0]), ([1, 2, 4], [-3, -2, 0]),
            ([1, 2, 3, 5], [-2, -3, 0, 0]), ([0, 1, 0, 0, 0, 0], [1, 0, 1, 0, 0, 0]),
            ([0, 0, 0, 1, 0, 0], [-1, 0, 0, 0, 0, 0]), ([0, 0, 0, 0, 1, 0], [-1, 0, -1, 0, 0, 0]),
        ):
            self.assertEqual(rest(load)[0], left)

    def test_wheel_of_one_hole(self):
        for weight in (0, 1, -1, GREAT, -GREAT):
            self.assertEqual(rest([weight]), ([weight], []))

    def test_many_loads(self):
        for n in WHEELS:
            for load in loads_of(n, "rest"):
                self.assert_rest(load)

    def test_every_wheel(self):
        for n in range(1, MOST + 1):
            self.assert_rest(small_load(n, "every"))

    def test_one_weight_in_each_hole(self):
        for n in range(1, 61):
            for hole in range(n):
                self.assert_rest([1 if k == hole else 0 for k in range(n)])

    def test_weights_of_more_figures_than_python_makes_a_text_of(self):
        for n in (1, 2, 6, 12, 30):
            self.assert_rest([(-1) ** hole * (TOLD + hole) for hole in range(n)])

    def test_a_load_on_kept_holes_is_its_own_rest(self):
        for n in WHEELS:
            holes = kept(n)
            load = [weight if hole in holes else 0 for hole, weight in enumerate(great_load(n))]
            self.assertEqual(rest(load), (load, []))
            self.assertEqual(rest(rest(small_load(n))[0])[1], [])

    def test_even_loads_have_no_rest(self):
        for n in WHEELS:
            for rows in ([], some_rows(n, 1), some_rows(n, 30), some_rows(n, 30, most=GREAT)):
                self.assertEqual(rest(laid_told(n, rows))[0], [0] * n)

    def test_loads_that_differ_by_rings_have_the_same_rest(self):
        for n in WHEELS:
            for load in (small_load(n), great_load(n)):
                left = rest(load)[0]
                for rows in (some_rows(n, 1), some_rows(n, 25), some_rows(n, 25, most=GREAT)):
                    self.assertEqual(rest(sum_told(load, laid_told(n, rows)))[0], left)

    def test_no_rest_just_where_the_load_is_even(self):
        for n in range(2, 9):
            for load in itertools.product((-1, 0, 1), repeat=n):
                self.assertEqual(not any(rest(list(load))[0]), even_told(load), load)

    def test_the_same_rest_just_where_the_difference_is_even(self):
        for n in WHEELS:
            one = small_load(n, "one")
            for other in (small_load(n, "other"), sum_told(one, laid_told(n, some_rows(n, 9))), plus(one, [1] * n)):
                difference = plus(one, scaled(other, -1))
                self.assertEqual(rest(one)[0] == rest(other)[0], even_told(difference), n)

    def test_sums_and_counts(self):
        for n in FEW_WHEELS:
            one, other = small_load(n, "one"), great_load(n, "other")
            self.assertEqual(rest(plus(one, other))[0], plus(rest(one)[0], rest(other)[0]))
            self.assertEqual(rest(scaled(one, -GREAT))[0], scaled(rest(one)[0], -GREAT))

    def test_a_load_made_finer_has_the_rest_made_finer(self):
        for n in range(1, 211):
            load = small_load(n, "finer")
            left = rest(load)[0]
            for many in {2, 3, 4, 5, 6, 7, 9, 12, MOST // n}:
                if many * n <= MOST:
                    self.assertEqual(rest(finer(load, many))[0], finer(left, many), (n, many))


class ListsAreTheAskersOwn(unittest.TestCase):
    def test_of_each_function(self):
        for n in (2, 6, 12, 30, 420):
            for hole in (0, 1, n - 1):
                assert_own_list(self, shares, n, hole)
            assert_own_list(self, rest, small_load(n))
        for n in (1, 2, 6, 12, 30, 420):
            assert_own_list(self, kept, n)

    def test_lists_without_anything_in_them(self):
        for asked in (lambda: shares(1, 0), lambda: rest([5])[1], lambda: rest([1, 0, 0, 0])[1]):
            told = asked()
            self.assertEqual(told, [])
            told.append(7)
            self.assertEqual(asked(), [])

    def test_the_rest_of_a_load_that_is_its_own_rest_is_a_new_list(self):
        load = [5, 0]
        left = rest(load)[0]
        left[0] = 9
        self.assertEqual(load, [5, 0])
        self.assertEqual(rest(load), ([5, 0], []))

    def test_the_same_rows_for_the_same_load(self):
        for n in WHEELS:
            load = great_load(n)
            self.assertEqual(rest(load), rest(list(load)))


class SomewhatBeyondTheBound(unittest.TestCase):
    def test_nothing_is_refused_for_it(self):
        n = 450
        for hole, found in shares_by_hole(n).items():
            self.assertEqual([shares(n, hole)], found)
        self.assertEqual(len(kept(n)), 120)
        load = small_load(n)
        left, rows = rest(load)
        self.assertEqual(sum_told(left, laid_told(n, rows)), load)


if __name__ == "__main__":
    unittest.main()
