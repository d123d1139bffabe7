"""Points 2, 3, 4, 9 and 10: loads hung, summed, taken many times, turned, skipped, laid on one another, made finer."""

import unittest
from math import gcd

from evenhub.errors import NoFit, NoTurn, TooWide
from evenhub.loads import finer, hung, laid_on, plus, scaled, skipped, turned
from samples import (
    FEW_WHEELS, GREAT, TOLD, WHEELS, assert_load, assert_own_list, assert_refused, chance, great_load,
    laid_on_told, loads_of, small_load, sparse_load, sum_told,
)


class Hung(unittest.TestCase):
    def test_written_ones(self):
        for n, hole, weight, told in (
            (1, 0, 5, [5]), (1, 7, 5, [5]), (1, -1, -5, [-5]), (3, 0, 1, [1, 0, 0]), (3, 2, -4, [0, 0, -4]),
            (3, 3, 2, [2, 0, 0]), (3, -1, 2, [0, 0, 2]), (3, -3, 2, [2, 0, 0]), (3, -4, 2, [0, 0, 2]),
            (4, 9, 6, [0, 6, 0, 0]), (2, 1, 0, [0, 0]),
        ):
            self.assertEqual(hung(n, hole, weight), told)

    def test_holes_of_any_kind(self):
        for n in WHEELS:
            for hole in (0, 1, n - 1, n, n + 1, -1, -n, -n - 1, 5 * n + 3, GREAT, -GREAT, TOLD, -TOLD):
                for weight in (1, -3, GREAT, -GREAT):
                    told = hung(n, hole, weight)
                    assert_load(self, told, n)
                    self.assertEqual(told, [weight if (k - hole) % n == 0 else 0 for k in range(n)])

    def test_weights_of_more_figures_than_python_makes_a_text_of(self):
        self.assertTrue(hung(3, 1, TOLD) == [0, TOLD, 0])
        self.assertTrue(hung(1, TOLD, -TOLD) == [-TOLD])


class Plus(unittest.TestCase):
    def test_written_ones(self):
        self.assertEqual(plus([3], [-5]), [-2])
        self.assertEqual(plus([1, 2, 3], [10, 0, -3]), [11, 2, 0])

    def test_hole_by_hole(self):
        for n in WHEELS:
            for one in loads_of(n, "one"):
                for other in loads_of(n, "other"):
                    told = plus(one, other)
                    assert_load(self, told, n)
                    self.assertEqual(told, [one[k] + other[k] for k in range(n)])

    def test_unlike_numbers_of_holes(self):
        for one, other in ((1, 2), (2, 1), (3, 6), (419, 420), (420, 1)):
            assert_refused(self, NoFit, plus, [1] * one, [1] * other)
            assert_refused(self, NoFit, plus, [0] * one, [TOLD] * other)


class Scaled(unittest.TestCase):
    def test_written_ones(self):
        self.assertEqual(scaled([3], -5), [-15])
        self.assertEqual(scaled([1, 0, -3], 2), [2, 0, -6])
        self.assertEqual(scaled([1, 0, -3], 0), [0, 0, 0])

    def test_hole_by_hole(self):
        for n in WHEELS:
            for load in loads_of(n):
                for many in (0, 1, -1, 2, -7, GREAT, -GREAT):
                    told = scaled(load, many)
                    assert_load(self, told, n)
                    self.assertEqual(told, [load[k] * many for k in range(n)])

    def test_what_was_told_is_handed_in_again(self):
        once = scaled([TOLD, -1], TOLD)
        self.assertTrue(scaled(once, TOLD) == [TOLD ** 3, -TOLD ** 2])


class Turned(unittest.TestCase):
    def test_written_ones(self):
        self.assertEqual(turned([3], 1), [3])
        self.assertEqual(turned([1, 2, 3], 1), [3, 1, 2])
        self.assertEqual(turned([1, 2, 3], -1), [2, 3, 1])
        self.assertEqual(turned([1, 2, 3], 0), [1, 2, 3])
        self.assertEqual(turned([1, 2, 3, 4], 6), [3, 4, 1, 2])

    def test_hole_by_hole(self):
        for n in WHEELS:
            for load in loads_of(n):
                for far in (0, 1, -1, 2, n - 1, n, n + 1, -n, -n - 2, 7 * n + 3, GREAT, -GREAT, TOLD, -TOLD):
                    told = turned(load, far)
                    assert_load(self, told, n)
                    start = far % n
                    self.assertEqual(told, load[n - start:] + load[:n - start])

    def test_there_and_back(self):
        for n in WHEELS:
            load = small_load(n)
            for far in (1, -5, GREAT):
                self.assertEqual(turned(turned(load, far), -far), load)


class Skipped(unittest.TestCase):
    def test_written_ones(self):
        self.assertEqual(skipped([1, 2, 3, 4, 5], 2), [1, 4, 2, 5, 3])
        self.assertEqual(skipped([1, 2, 3, 4, 5], 1), [1, 2, 3, 4, 5])
        self.assertEqual(skipped([1, 2, 3, 4, 5], -1), [1, 5, 4, 3, 2])
        self.assertEqual(skipped([1, 2], 3), [1, 2])

    def test_wheel_of_one_hole_takes_every_step(self):
        for step in (0, 1, -1, 2, 420, GREAT, -GREAT, TOLD):
            self.assertEqual(skipped([5], step), [5])

    def test_every_step_of_small_wheels(self):
        for n in range(1, 31):
            load = list(range(1, n + 1))
            for step in range(-2 * n - 2, 2 * n + 3):
                self.assert_skipped(load, step)

    def test_many_steps_of_wheels_up_to_420(self):
        for n in WHEELS:
            for load in loads_of(n):
                for step in (0, 1, -1, 2, 3, 11, 13, n - 1, n, n + 1, -n - 1, 2 * n + 1, GREAT, -GREAT):
                    self.assert_skipped(load, step)

    def test_steps_of_more_figures_than_python_makes_a_text_of(self):
        assert_refused(self, NoTurn, skipped, [1, 2, 3], 3 * TOLD)
        assert_refused(self, NoTurn, skipped, [1, 2], -2 * TOLD)
        self.assertEqual(skipped([1, 2, 3], 3 * TOLD - 1), [1, 3, 2])

    def assert_skipped(self, load, step):
        n = len(load)
        if gcd(step, n) != 1:
            assert_refused(self, NoTurn, skipped, load, step)
            return
        told = skipped(load, step)
        assert_load(self, told, n)
        for k in range(n):
            self.assertEqual(told[k * step % n], load[k])


class LaidOn(unittest.TestCase):
    def test_written_ones(self):
        self.assertEqual(laid_on([3], [-5]), [-15])
        self.assertEqual(laid_on([1, 2], [3, 5]), [13, 11])
        self.assertEqual(laid_on([1, 2, 0], [0, 0, 7]), [14, 0, 7])

    def test_hole_by_hole(self):
        for n in FEW_WHEELS[:-2] + (16, 25, 60):
            for one in loads_of(n, "one"):
                for other in loads_of(n, "other"):
                    told = laid_on(one, other)
                    assert_load(self, told, n)
                    self.assertEqual(told, laid_on_told(one, other), n)

    def test_wheels_of_many_holes(self):
        for n in (210, 419, 420):
            for one, other in (
                (small_load(n, "one"), great_load(n, "other")), (great_load(n, "one"), sparse_load(n, "other")),
            ):
                self.assertEqual(laid_on(one, other), laid_on_told(one, other))

    def test_the_same_in_either_order(self):
        for n in FEW_WHEELS:
            for one, other in ((small_load(n, "a"), sparse_load(n, "b")), (great_load(n, "a"), small_load(n, "b"))):
                self.assertEqual(laid_on(one, other), laid_on(other, one))

    def test_the_same_in_either_grouping(self):
        for n in FEW_WHEELS:
            one, other, third = small_load(n, "a"), great_load(n, "b"), sparse_load(n, "c")
            self.assertEqual(laid_on(laid_on(one, other), third), laid_on(one, laid_on(other, third)))

    def test_spread_over_sums(self):
        for n in FEW_WHEELS:
            one, other, third = small_load(n, "a"), great_load(n, "b"), sparse_load(n, "c")
            self.assertEqual(laid_on(one, plus(other, third)), plus(laid_on(one, other), laid_on(one, third)))
            self.assertEqual(laid_on(plus(one, other), third), plus(laid_on(one, third), laid_on(other, third)))

    def test_with_one_weight(self):
        for n in WHEELS:
            load = great_load(n)
            self.assertEqual(laid_on(hung(n, 0, 1), load), load)
            self.assertEqual(laid_on(load, hung(n, 0, 1)), load)
            for hole in (1, -1, n // 2, GREAT):
                self.assertEqual(laid_on(load, hung(n, hole, -3)), scaled(turned(load, hole), -3))

    def test_unlike_numbers_of_holes(self):
        for one, other in ((1, 2), (2, 1), (3, 6), (419, 420), (420, 1)):
            assert_refused(self, NoFit, laid_on, [1] * one, [1] * other)
            assert_refused(self, NoFit, laid_on, [0] * one, [0] * other)

    def test_weights_of_more_figures_than_python_makes_a_text_of(self):
        self.assertTrue(laid_on([TOLD, 1], [0, TOLD]) == [TOLD, TOLD * TOLD])


class Finer(unittest.TestCase):
    def test_written_ones(self):
        self.assertEqual(finer([3], 1), [3])
        self.assertEqual(finer([3], 4), [3, 0, 0, 0])
        self.assertEqual(finer([1, 2, 3], 2), [1, 0, 2, 0, 3, 0])

    def test_by_one_it_is_the_load(self):
        for n in WHEELS:
            for load in loads_of(n):
                self.assertEqual(finer(load, 1), load)

    def test_hole_by_hole(self):
        for n in WHEELS:
            load = great_load(n)
            for many in range(1, 420 // n + 1):
                told = finer(load, many)
                assert_load(self, told, n * many)
                self.assertEqual(told[::many], load)
                self.assertEqual(sum(1 for weight in told if weight), sum(1 for weight in load if weight))

    def test_twice_in_turn(self):
        for n, one, other in ((1, 2, 3), (5, 3, 3), (6, 7, 10), (7, 2, 30), (35, 4, 3), (1, 20, 21)):
            load = small_load(n)
            self.assertEqual(finer(finer(load, one), other), finer(load, one * other))
            self.assertEqual(finer(finer(load, other), one), finer(load, one * other))

    def test_just_420_holes_and_one_time_more(self):
        for n in (1, 2, 3, 4, 5, 6, 7, 10, 12, 20, 35, 60, 84, 105, 140, 210, 420):
            load = small_load(n)
            self.assertEqual(len(finer(load, 420 // n)), 420)
            assert_refused(self, TooWide, finer, load, 420 // n + 1)

    def test_one_hole_more_than_420(self):
        assert_refused(self, TooWide, finer, [1], 421)

    def test_wheels_that_420_is_no_multiple_of(self):
        for n in (8, 9, 11, 97, 209, 211, 300, 419):
            load = small_load(n)
            self.assertEqual(len(finer(load, 420 // n)), 420 // n * n)
            assert_refused(self, TooWide, finer, load, 420 // n + 1)

    def test_by_many_figures(self):
        for n in (1, 2, 97, 420):
            for many in (10 ** 9, GREAT, TOLD):
                assert_refused(self, TooWide, finer, [1] * n, many)

    def test_sums_and_products_stay_as_they_are(self):
        for n, many in ((1, 5), (4, 3), (6, 10), (15, 28)):
            one, other = small_load(n, "a"), great_load(n, "b")
            self.assertEqual(finer(plus(one, other), many), plus(finer(one, many), finer(other, many)))
            self.assertEqual(finer(laid_on(one, other), many), laid_on(finer(one, many), finer(other, many)))


class ListsAreTheAskersOwn(unittest.TestCase):
    def test_of_each_function(self):
        for n in (1, 2, 5, 12, 60):
            load = small_load(n, "load")
            other = small_load(n, "other")
            for asked, handed in (
                (hung, (n, 3, 4)), (plus, (load, other)), (plus, (load, [0] * n)), (scaled, (load, 1)),
                (scaled, (load, 3)), (turned, (load, 0)), (turned, (load, 2)), (skipped, (load, 1)),
                (skipped, (load, -1)), (laid_on, (load, other)), (laid_on, (hung(n, 0, 1), load)), (finer, (load, 1)),
                (finer, (load, 7)),
            ):
                with self.subTest(asked=asked.__name__, n=n):
                    own = tuple(list(thing) if isinstance(thing, list) else thing for thing in handed)
                    assert_own_list(self, asked, *own)

    def test_one_list_handed_in_twice(self):
        load = small_load(12)
        before = list(load)
        self.assertEqual(plus(load, load), scaled(before, 2))
        self.assertEqual(laid_on(load, load), laid_on_told(before, before))
        self.assertEqual(load, before)


class SomewhatBeyondTheBound(unittest.TestCase):
    def test_nothing_is_refused_for_it(self):
        n = 450
        one, other = small_load(n, "one"), small_load(n, "other")
        self.assertEqual(hung(n, -1, 5), [0] * (n - 1) + [5])
        self.assertEqual(plus(one, other), sum_told(one, other))
        self.assertEqual(turned(one, 1), one[-1:] + one[:-1])
        self.assertEqual(skipped(one, -1), one[:1] + one[:0:-1])
        self.assertEqual(laid_on(one, other), laid_on_told(one, other))
        many = chance("many").randint(10 ** 400, 10 ** 401)
        self.assertEqual(scaled(one, many), [weight * many for weight in one])

    def test_but_where_a_point_says_so(self):
        assert_refused(self, TooWide, finer, [1] * 421, 1)


if __name__ == "__main__":
    unittest.main()
