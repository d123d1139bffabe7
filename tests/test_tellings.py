"""Points 2, 3, 5 and 23 to 26: values, told in one way, on wheels, summed, multiplied and told apart."""

import itertools
import unittest
from math import gcd, lcm

from evenhub.errors import NoNumber, NoWheel, TooWide
from evenhub.papers import holds
from evenhub.rests import rest
from evenhub.tellings import added, against, apart, is_value, on, times, turn, value, whole
from samples import (
    FEW_WHEELS, GREAT, TOLD, WHEELS, assert_form, assert_load, assert_own_list, assert_refused, assert_rows,
    assert_tells, chance, even_told, finer_told, great_load, kept_told, laid_on_told, laid_told, loads_of, primes_of,
    ring_told, rings_weigh_nought, same_told, small_load, some_rows, sparse_load, sum_told, times_told, weighed_told,
)

MOST = 420
NOUGHT = (1, (0,), 1)
ONE = (1, (1,), 1)
BOTTOMS = (1, -1, 2, -3, 12, 30030, GREAT, -GREAT)


def some_value(n, *words, most=9):
    source = chance(n, most, "value", *words)
    return value([source.randint(-most, most) for hole in range(n)], source.choice((1, 1, 2, 3, -5, 12)))


def some_values():
    # On wheels that all divide a wheel of 420 or 360 holes, so that some pairs fit and others don't.
    found = [NOUGHT, ONE, whole(-1), whole(GREAT), value([7], 12), turn(3, 1), turn(4, 1), turn(8, 3), turn(5, 2)]
    for n in (1, 3, 4, 5, 7, 9, 12, 15, 20, 21, 24, 35, 60):
        found.append(some_value(n, "some"))
        found.append(some_value(n, "great", most=GREAT))
    return found


def fits(*values):
    return lcm(*[x[0] for x in values]) <= MOST


def pairs_that_fit(values):
    return [(x, y) for x, y in itertools.product(values, repeat=2) if fits(x, y)]


def triples_that_fit(values, count, *words):
    source = chance(count, *words)
    found = []
    while len(found) < count:
        x, y, z = (source.choice(values) for k in range(3))
        if fits(x, y, z):
            found.append((x, y, z))
    return found


class Value(unittest.TestCase):
    def test_written_ones(self):
        for load, bottom, told in (
            ([0], 1, NOUGHT), ([0], -7, NOUGHT), ([1], 1, ONE), ([-1], -1, ONE), ([6], 4, (1, (3,), 2)),
            ([6], -4, (1, (-3,), 2)), ([5, 2], 1, (1, (3,), 1)), ([0, 1], 1, (1, (-1,), 1)), ([1, 1], 5, NOUGHT),
            ([1, 1, 1], 1, NOUGHT), ([0, 1, 0], 1, (3, (0, 1, 0), 1)), ([0, 0, 1], 1, (3, (-1, -1, 0), 1)),
            ([0, 2, 0], 4, (3, (0, 1, 0), 2)), ([0, 1, 0, 0], 1, (4, (0, 1, 0, 0), 1)),
            ([0, 0, 1, 0], 1, (1, (-1,), 1)), ([0, 0, 0, 1], 1, (4, (0, -1, 0, 0), 1)),
            ([0, 1, 0, 0, 0, 0], 1, (3, (1, 1, 0), 1)), ([0, 0, 0, 1, 0, 0], 2, (1, (-1,), 2)),
            ([0, 0, 9, 0, 0, 0], -6, (3, (0, -3, 0), 2)), ([0, 0, 1, 0, 0, 0, 0, 0], 1, (4, (0, 1, 0, 0), 1)),
            ([0, 1, 0, 0, 0, 0, 0, 0], 3, (8, (0, 1, 0, 0, 0, 0, 0, 0), 3)),
        ):
            self.assertEqual(value(load, bottom), told, (load, bottom))

    def test_a_bottom_of_nought(self):
        for n in WHEELS:
            for load in ([0] * n, [1] * n, small_load(n)):
                assert_refused(self, NoNumber, value, load, 0)

    def test_the_form_on_many_wheels(self):
        for n in WHEELS:
            for load, bottom in zip(loads_of(n, "form"), BOTTOMS):
                assert_tells(self, value(load, bottom), load, bottom)

    def test_the_form_on_every_wheel(self):
        for n in range(1, MOST + 1):
            load = sparse_load(n, "every")
            x = value(load, -6)
            self.assertNotEqual(x[0] % 4, 2)
            self.assertEqual(n % x[0], 0)
            self.assertEqual(len(x[1]), x[0])
            self.assertFalse(any(weight for hole, weight in enumerate(x[1]) if hole not in kept_told(x[0])))
            self.assertEqual(gcd(x[2], *x[1]), 1)
            self.assertTrue(same_told(x[1], x[2], load, -6))

    def test_as_the_rest_tells_it(self):
        for n in WHEELS:
            for load in loads_of(n, "rest") + [finer_told(small_load(n // p), p) for p in primes_of(n)]:
                left = rest(load)[0]
                step = gcd(n, *[hole for hole, weight in enumerate(left) if weight])
                told = value(load, 1)
                self.assertEqual(told, (n // step, tuple(left[::step]), 1))

    def test_bottoms_of_both_signs(self):
        for n in FEW_WHEELS:
            for load in loads_of(n, "signs"):
                for bottom in BOTTOMS:
                    x = value(load, bottom)
                    self.assertGreaterEqual(x[2], 1)
                    self.assertEqual(value(load, -bottom), value(times_told(load, -1), bottom))
                    self.assertEqual(bottom % x[2], 0)

    def test_even_loads_are_the_value_nought(self):
        for n in WHEELS:
            for p in primes_of(n):
                for hole in (0, 1, n - 1, n // 2):
                    self.assertEqual(value(ring_told(n, p, hole), 5), NOUGHT)
            for rows in ([], some_rows(n, 25), some_rows(n, 25, most=GREAT)):
                for bottom in BOTTOMS:
                    self.assertEqual(value(laid_told(n, rows), bottom), NOUGHT)

    def test_no_other_load_is_the_value_nought(self):
        for n in range(1, 7):
            for load in itertools.product((-1, 0, 1, 2), repeat=n):
                self.assertEqual(value(list(load), 3) == NOUGHT, even_told(load), load)

    def test_loads_made_finer(self):
        for n in FEW_WHEELS:
            for load in (small_load(n), sparse_load(n), great_load(n)):
                x = value(load, 30)
                for many in {2, 3, 4, 5, 6, 7, 11, MOST // n}:
                    if many * n <= MOST:
                        self.assertEqual(value(finer_told(load, many), 30), x)

    def test_loads_taken_many_times_with_the_bottom_times_it(self):
        for n in FEW_WHEELS:
            for load in (small_load(n), great_load(n)):
                x = value(load, 6)
                for many in (-1, 2, -6, 35, GREAT, -GREAT, TOLD):
                    self.assertTrue(value(times_told(load, many), 6 * many) == x)

    def test_loads_with_even_ones_added(self):
        for n in WHEELS:
            for load in (small_load(n), great_load(n)):
                for rows in (some_rows(n, 1), some_rows(n, 30), some_rows(n, 30, most=GREAT)):
                    self.assertEqual(value(sum_told(load, laid_told(n, rows)), 10), value(load, 10))

    def test_loads_that_differ_by_an_uneven_one(self):
        for n in WHEELS:
            load = small_load(n, "uneven")
            x = value(load, 4)
            for hole in {0, 1 % n, n // 2, n - 1}:
                for by in (1, -1, 4, GREAT):
                    changed = [weight + by * (k == hole) for k, weight in enumerate(load)]
                    self.assertNotEqual(value(changed, 4), x)
            if any(x[1]):
                for bottom in (1, -4, 2, 3, 5, 8, GREAT):
                    self.assertNotEqual(value(load, bottom), x)

    def test_equal_just_where_the_difference_is_even(self):
        asked = [
            (list(load), bottom)
            for n in (1, 2, 3, 4) for load in itertools.product((-1, 0, 2), repeat=n) for bottom in (1, -2)
        ]
        told = [value(load, bottom) for load, bottom in asked]
        for one in range(0, len(asked), 5):
            for other in range(len(asked)):
                same = same_told(*asked[one], *asked[other])
                self.assertEqual(told[one] == told[other], same, (asked[one], asked[other]))
        # And on wheels of which neither divides the other.
        source = chance("unlike wheels")
        for n, other in ((6, 9), (10, 4), (12, 8), (6, 10), (15, 10), (9, 12), (14, 4), (30, 12)):
            base = small_load(gcd(n, other), "base")
            for number in range(30):
                bottom = source.choice((1, 2, -3))
                finer = [finer_told(times_told(base, bottom), k // len(base)) for k in (n, other)]
                one = sum_told(finer[0], laid_told(n, some_rows(n, 5, number)))
                two = sum_told(finer[1], laid_told(other, some_rows(other, 5, number)))
                two[source.randrange(other)] += source.choice((0, 0, 0, 1))
                same = same_told(one, bottom, two, bottom)
                self.assertEqual(value(one, bottom) == value(two, bottom), same)

    def test_the_least_wheel(self):
        # Sums of turns of a lesser wheel, hung in other holes of the greater one than its own.
        for n in range(1, 61):
            for least in [d for d in range(1, n + 1) if n % d == 0]:
                load = sum_told(finer_told(small_load(least, n), n // least), laid_told(n, some_rows(n, 8, least)))
                x = value(load, 1)
                self.assertEqual(least % x[0], 0)
                assert_form(self, x)
        # A turn and its mirrored one: of five holes they need five, of eight, where they are root 2, eight.
        self.assertEqual(value([0, 1, 0, 0, 1], 1)[0], 5)
        self.assertEqual(value([0, 1, 0, 0, 0, 0, 0, 1], 1), (8, (0, 1, 0, -1, 0, 0, 0, 0), 1))
        # The turns of the units of 12 sum to 0, those of the units of 30 to -1.
        self.assertEqual(value([int(gcd(k, 12) == 1) for k in range(12)], 1), NOUGHT)
        self.assertEqual(value([int(gcd(k, 30) == 1) for k in range(30)], 1), whole(-1))

    def test_every_turn_of_every_small_wheel(self):
        for n in range(1, 41):
            for hole in range(n):
                x = turn(n, hole)
                assert_tells(self, x, [int(k == hole) for k in range(n)], 1)
                order = n // gcd(n, hole)
                self.assertEqual(x[0], order // 2 if order % 4 == 2 else order)

    def test_cleared_of_what_divides_all(self):
        for n in FEW_WHEELS:
            load = [weight if hole in kept_told(n) else 0 for hole, weight in enumerate(small_load(n, "cleared"))]
            load[0] = 1
            for by in (2, 12, 35, GREAT, TOLD):
                for bottom in (1, 2, 5, GREAT + 2):
                    x = value(times_told(load, by), by * bottom)
                    self.assertTrue(x[2] == bottom)
                    self.assertTrue(max(abs(weight) for weight in x[1]) < 10)
        # A number that divides the bottom and some weights, but not all.
        self.assertEqual(value([6, 9, 0, 0, 0], 6), (5, (2, 3, 0, 0, 0), 2))
        self.assertEqual(value([6, 10, 0, 15, 0], 30), (5, (6, 10, 0, 15, 0), 30))

    def test_weights_of_more_figures_than_python_makes_a_text_of(self):
        for n in (1, 3, 12, 15):
            load = [(-1) ** hole * (TOLD + hole) for hole in range(n)]
            for bottom in (1, -TOLD, TOLD - 1, 6):
                x = value(load, bottom)
                self.assertTrue(x[2] >= 1)
                self.assertEqual(gcd(x[2], *x[1]), 1)
                self.assertTrue(same_told(x[1], x[2], load, bottom))


class WholeAndTurn(unittest.TestCase):
    def test_whole_numbers(self):
        self.assertEqual(whole(0), NOUGHT)
        self.assertEqual(whole(1), ONE)
        for many in (-1, 2, -30, GREAT, -GREAT, TOLD):
            self.assertTrue(whole(many) == (1, (many,), 1))
            self.assertTrue(whole(many) == value([many], 1))
            assert_form(self, whole(many))

    def test_turns(self):
        for n, hole, told in (
            (1, 0, ONE), (1, 5, ONE), (2, 1, whole(-1)), (2, 0, ONE), (3, 1, (3, (0, 1, 0), 1)), (4, 2, whole(-1)),
            (4, -1, (4, (0, -1, 0, 0), 1)), (6, 2, (3, (0, 1, 0), 1)), (6, 1, (3, (1, 1, 0), 1)), (6, 3, whole(-1)),
            (8, 2, (4, (0, 1, 0, 0), 1)), (420, 0, ONE), (420, 210, whole(-1)), (420, 140, (3, (0, 1, 0), 1)),
        ):
            self.assertEqual(turn(n, hole), told)

    def test_holes_of_any_kind(self):
        for n in WHEELS:
            for hole in (0, 1, n // 2, n - 1):
                told = turn(n, hole)
                self.assertEqual(told, value([int(k == hole % n) for k in range(n)], 1))
                for far in (1, -1, 7, GREAT, -GREAT, TOLD):
                    self.assertEqual(turn(n, hole + n * far), told)

    def test_turns_are_multiplied_as_holes_are_summed(self):
        for n in WHEELS:
            source = chance(n, "turns")
            for number in range(3):
                one, other = source.randint(-n, n), source.randint(-n, n)
                self.assertEqual(times(turn(n, one), turn(n, other)), turn(n, one + other))

    def test_the_turns_of_a_wheel_are_unlike(self):
        for n in (1, 2, 3, 4, 6, 12, 30, 60, 97, 210, 420):
            self.assertEqual(len({turn(n, hole) for hole in range(n)}), n)

    def test_turns_evenly_round_sum_to_nought(self):
        for n in (2, 3, 4, 6, 12, 30, 60):
            total = NOUGHT
            for hole in range(n):
                total = added(total, turn(n, hole))
            self.assertEqual(total, NOUGHT)


class On(unittest.TestCase):
    def test_written_ones(self):
        self.assertEqual(on(whole(5), 1), [5])
        self.assertEqual(on(whole(5), 3), [5, 0, 0])
        self.assertEqual(on(value([5], 7), 2), [5, 0])
        self.assertEqual(on((3, (1, 2, 0), 4), 6), [1, 0, 2, 0, 0, 0])
        self.assertEqual(on((3, (1, 2, 0), 4), 3), [1, 2, 0])

    def test_weights_made_finer(self):
        for x in some_values():
            for n in range(x[0], MOST + 1, x[0]):
                told = on(x, n)
                assert_load(self, told, n)
                self.assertEqual(told, finer_told(x[1], n // x[0]))
                self.assertEqual(value(told, x[2]), x)

    def test_wheels_that_the_own_one_does_not_divide(self):
        for x in some_values():
            for n in range(1, MOST + 1):
                if n % x[0]:
                    assert_refused(self, NoWheel, on, x, n)

    def test_wheels_of_too_many_holes(self):
        # Weights made finer beyond 420 holes are refused; where the wheel doesn't fit, NoWheel comes.
        assert_refused(self, TooWide, on, turn(3, 1), 423)
        assert_refused(self, TooWide, on, turn(7, 1), 840)
        assert_refused(self, NoWheel, on, turn(7, 1), 841)


class SumsAndProducts(unittest.TestCase):
    def assert_sum(self, x, y, told):
        n = lcm(x[0], y[0])
        one, other = finer_told(x[1], n // x[0]), finer_told(y[1], n // y[0])
        load = sum_told(times_told(one, y[2]), times_told(other, x[2]))
        self.assertTrue(told == value(load, x[2] * y[2]))
        self.assertTrue(same_told(told[1], told[2], load, x[2] * y[2]))

    def assert_product(self, x, y, told):
        n = lcm(x[0], y[0])
        load = laid_on_told(finer_told(x[1], n // x[0]), finer_told(y[1], n // y[0]))
        self.assertTrue(told == value(load, x[2] * y[2]))
        self.assertTrue(same_told(told[1], told[2], load, x[2] * y[2]))

    def test_written_ones(self):
        half, third, minus = value([1], 2), value([1], 3), whole(-1)
        self.assertEqual(added(half, third), (1, (5,), 6))
        self.assertEqual(times(half, third), (1, (1,), 6))
        self.assertEqual(added(half, half), ONE)
        self.assertEqual(against(half), (1, (-1,), 2))
        self.assertEqual(against(NOUGHT), NOUGHT)
        self.assertEqual(times(turn(4, 1), turn(4, 1)), minus)
        self.assertEqual(added(added(ONE, turn(3, 1)), turn(3, 2)), NOUGHT)
        self.assertEqual(added(turn(3, 1), turn(4, 1)), (12, (0, 0, 0, 1, 1, 0, 0, 0, 0, 0, 0, 0), 1))
        self.assertEqual(times(turn(3, 1), turn(4, 1)), (12, (0, 0, 0, 0, 0, 0, 0, 1, 0, 0, 0, 0), 1))
        root_two = added(turn(8, 1), turn(8, -1))
        self.assertEqual(times(root_two, root_two), whole(2))
        self.assertEqual(times(root_two, value([1], 2)), (8, (0, 1, 0, -1, 0, 0, 0, 0), 2))

    def test_against_the_loads_of_one_wheel(self):
        for number, (x, y) in enumerate(pairs_that_fit(some_values())):
            if number % 7 == 0:
                self.assert_sum(x, y, added(x, y))
                self.assert_product(x, y, times(x, y))

    def test_the_form_of_what_comes(self):
        for number, (x, y) in enumerate(pairs_that_fit(some_values())):
            if number % 41 == 0:
                assert_form(self, added(x, y))
                assert_form(self, times(x, y))
                assert_form(self, against(x))

    def test_loads_of_one_wheel_summed_and_laid_on_one_another(self):
        for n in FEW_WHEELS:
            one, other = small_load(n, "one"), sparse_load(n, "other")
            x, y = value(one, 4), value(other, -9)
            summed = sum_told(times_told(one, -9), times_told(other, 4))
            self.assertEqual(added(x, y), value(summed, -36))
            self.assertEqual(times(x, y), value(laid_on_told(one, other), -36))
            self.assertEqual(against(x), value(times_told(one, -1), 4))

    def test_wheels_of_most_holes(self):
        for n, other in ((420, 420), (419, 419), (419, 1), (420, 60), (140, 105), (400, 16), (360, 40), (21, 20)):
            x, y = some_value(n, "most"), some_value(other, "most")
            self.assertEqual(x[0], n)
            self.assert_sum(x, y, added(x, y))
            self.assert_product(x, y, times(x, y))

    def test_many_figures(self):
        for n, other in ((1, 1), (3, 4), (12, 12), (5, 7), (60, 60), (210, 84)):
            x, y = some_value(n, "figures", most=GREAT), some_value(other, "figures", most=GREAT)
            self.assert_sum(x, y, added(x, y))
            self.assert_product(x, y, times(x, y))
        for n in (1, 3, 12):
            x = value([TOLD + hole * hole for hole in range(n)], TOLD + 2)
            y = value([GREAT - TOLD * hole for hole in range(n)], GREAT)
            self.assert_sum(x, y, added(x, y))
            self.assert_product(x, y, times(x, y))
            self.assertTrue(added(x, against(x)) == NOUGHT)
            self.assertTrue(added(added(x, y), against(y)) == x)

    def test_a_product_of_products(self):
        # Figures grow with each product, and what was told is handed in again.
        x = value([1, 5, -3, 0, 7], 6)
        product = ONE
        load = [1]
        for number in range(60):
            product = times(product, x)
            load = laid_on_told(finer_told(load, 5 // len(load)), [1, 5, -3, 0, 7])
        self.assertTrue(product == value(load, 6 ** 60))

    def test_joints_above_420(self):
        for n, other in ((5, 421), (11, 39), (20, 23), (420, 11), (420, 9), (420, 8), (419, 3), (419, 4), (16, 27)):
            x, y = turn(n, 1), turn(other, 1)
            for one, two in ((x, y), (y, x), (added(x, ONE), y), (x, value(list(y[1]), 7))):
                assert_refused(self, TooWide, added, one, two)
                assert_refused(self, TooWide, times, one, two)
                assert_refused(self, TooWide, apart, one, two)

    def test_every_joint_of_two_own_wheels(self):
        owns = [n for n in range(1, MOST + 1) if n % 4 != 2]
        source = chance("joints")
        for number in range(600):
            n, other = source.choice(owns), source.choice(owns[:100])
            x, y = turn(n, 1), turn(other, 1)
            self.assertEqual((x[0], y[0]), (n, other))
            if lcm(n, other) > MOST:
                for asked in (added, times, apart):
                    assert_refused(self, TooWide, asked, x, y)
            else:
                self.assertEqual(times(x, y), turn(lcm(n, other), lcm(n, other) // n + lcm(n, other) // other))

    def test_a_joint_of_420_is_not_refused(self):
        self.assertEqual(times(turn(420, 1), turn(420, 419)), ONE)
        self.assertEqual(added(turn(420, 1), turn(420, 211)), NOUGHT)
        self.assertEqual(times(turn(12, 1), turn(35, 1))[0], 420)

    def test_refused_also_where_the_outcome_has_a_lesser_wheel(self):
        # What both have of the wheel of 7 holes goes away, so the wheel of 143 would be enough.
        sevenths, elevenths, thirteenths = turn(7, 1), turn(11, 1), turn(13, 1)
        x, y = added(elevenths, sevenths), added(thirteenths, against(sevenths))
        self.assertEqual((x[0], y[0]), (77, 91))
        self.assertEqual(added(elevenths, thirteenths)[0], 143)
        assert_refused(self, TooWide, added, x, y)
        assert_refused(self, TooWide, added, y, x)
        assert_refused(self, TooWide, apart, x, against(y))
        x, y = times(elevenths, sevenths), times(thirteenths, turn(7, -1))
        self.assertEqual(times(elevenths, thirteenths)[0], 143)
        assert_refused(self, TooWide, times, x, y)
        assert_refused(self, TooWide, times, y, x)

    def test_refused_also_where_the_outcome_is_nought(self):
        # An own wheel of more than 420 holes lies somewhat beyond the bound; the joint with any other does so too.
        for n in (421, 425, 431):
            x = turn(n, 1)
            self.assertEqual(x[0], n)
            assert_refused(self, TooWide, added, x, against(x))
            assert_refused(self, TooWide, apart, x, x)
            assert_refused(self, TooWide, times, x, NOUGHT)
            assert_refused(self, TooWide, times, NOUGHT, x)

    def test_nought_and_whole_numbers_fit_with_each_value(self):
        for n in (1, 3, 419, 420):
            self.assertEqual(times(NOUGHT, turn(n, 1)), NOUGHT)
            self.assertEqual(added(turn(n, 1), NOUGHT), turn(n, 1))


class RulesOfReckoning(unittest.TestCase):
    def test_either_order(self):
        for number, (x, y) in enumerate(pairs_that_fit(some_values())):
            if number % 5 == 0:
                self.assertEqual(added(x, y), added(y, x))
                self.assertEqual(times(x, y), times(y, x))

    def test_either_grouping_and_products_over_sums(self):
        for x, y, z in triples_that_fit(some_values(), 120, "rules"):
            self.assertEqual(added(added(x, y), z), added(x, added(y, z)))
            self.assertEqual(times(times(x, y), z), times(x, times(y, z)))
            self.assertEqual(times(x, added(y, z)), added(times(x, y), times(x, z)))

    def test_nought_and_one(self):
        for x in some_values():
            self.assertEqual(added(x, NOUGHT), x)
            self.assertEqual(added(NOUGHT, x), x)
            self.assertEqual(times(x, NOUGHT), NOUGHT)
            self.assertEqual(times(x, ONE), x)
            self.assertEqual(times(ONE, x), x)
            self.assertEqual(added(x, against(x)), NOUGHT)
            self.assertEqual(against(x), times(whole(-1), x))
            self.assertEqual(against(against(x)), x)

    def test_no_product_of_others_than_nought_is_nought(self):
        for x, y in pairs_that_fit(some_values()):
            if x[0] * y[0] < 500:
                self.assertEqual(times(x, y) == NOUGHT, NOUGHT in (x, y))

    def test_sums_of_whole_numbers_and_fractions(self):
        for one, other in itertools.product((0, 1, -7, 12, GREAT), repeat=2):
            self.assertEqual(added(whole(one), whole(other)), whole(one + other))
            self.assertEqual(times(whole(one), whole(other)), whole(one * other))
            told = added(value([one], 6), value([other], 10))
            self.assertEqual(told, value([5 * one + 3 * other], 30))


class Apart(unittest.TestCase):
    def assert_apart(self, x, y):
        told = apart(x, y)
        self.assertIs(type(told), tuple)
        load, paper = told
        n = lcm(x[0], y[0])
        assert_load(self, load, n)
        one, other = finer_told(x[1], n // x[0]), finer_told(y[1], n // y[0])
        self.assertEqual(load, sum_told(times_told(one, y[2]), times_told(other, -x[2])))
        self.assertIs(type(paper), tuple)
        self.assertEqual(paper[0] == "even", x == y)
        self.assertIs(holds(load, paper), True)
        if paper[0] == "even":
            assert_rows(self, n, paper[1])
            self.assertEqual(laid_told(n, paper[1]), load)
        else:
            self.assertEqual(paper[0], "uneven")
            assert_load(self, paper[1], n)
            self.assertNotEqual(weighed_told(load, paper[1]), 0)
            self.assertTrue(rings_weigh_nought(paper[1]))

    def test_written_ones(self):
        self.assertEqual(apart(NOUGHT, NOUGHT), ([0], ("even", [])))
        self.assertEqual(apart(value([1], 2), value([1], 3))[0], [1])
        self.assertEqual(apart(value([1], 3), value([1], 2))[0], [-1])
        self.assertEqual(apart(turn(3, 1), value([5], 7))[0], [-5, 7, 0])
        self.assertEqual(apart(value([5], 7), turn(3, 1))[0], [5, -7, 0])
        self.assertEqual(apart(turn(3, 1), turn(4, 1))[0], [0, 0, 0, -1, 1, 0, 0, 0, 0, 0, 0, 0])

    def test_many(self):
        for number, (x, y) in enumerate(pairs_that_fit(some_values())):
            if number % 3 == 0 or x == y:
                self.assert_apart(x, y)

    def test_values_that_are_nearly_alike(self):
        for n in FEW_WHEELS:
            x = some_value(n, "near", most=GREAT)
            for y in (
                x, added(x, ONE), added(x, value([1], GREAT)), times(x, whole(2)), against(x), added(x, turn(n, 1)),
                value(times_told(x[1], 3), 3 * x[2]), times(x, value([GREAT + 1], GREAT)),
            ):
                self.assert_apart(x, y)
                self.assert_apart(y, x)

    def test_figures_and_holes(self):
        for n in (419, 420):
            self.assert_apart(some_value(n, "one"), some_value(n, "other"))
            self.assert_apart(some_value(n, "one"), some_value(n, "one"))
        x, y = value([TOLD, 1, 0], TOLD + 2), value([TOLD, 2, 0, 0, 0], 6)
        load = apart(x, y)[0]
        self.assertTrue(load[:6] == [-TOLD * (TOLD - 4), 0, 0, -2 * (TOLD + 2), 0, 6])
        self.assertTrue(holds(*apart(x, y)))

    def test_too_wide(self):
        for n, other in ((11, 39), (420, 9), (419, 4), (27, 16), (400, 3)):
            assert_refused(self, TooWide, apart, turn(n, 1), turn(other, 1))
            assert_refused(self, TooWide, apart, turn(other, 1), turn(n, 1))


class IsValue(unittest.TestCase):
    def assert_is(self, thing, told):
        self.assertIs(is_value(thing), told)

    def test_told_values(self):
        for x in some_values():
            self.assert_is(x, True)
            self.assert_is(against(x), True)
        for n in range(1, MOST + 1):
            self.assert_is(some_value(n), True)
            self.assert_is(turn(n, 1), True)

    def test_written_ones(self):
        for thing, told in (
            ((1, (0,), 1), True), ((1, (0,), 2), False), ((1, (0,), 0), False), ((1, (0,), -1), False),
            ((1, (1,), 1), True), ((1, (2,), 2), False), ((1, (-3,), 2), True), ((1, (3,), -2), False),
            ((1, (3,), 0), False), ((2, (0, 0), 1), False), ((2, (1, 0), 1), False), ((2, (0, 1), 1), False),
            ((3, (0, 0, 0), 1), False), ((3, (1, 0, 0), 1), False), ((3, (0, 1, 0), 1), True),
            ((3, (0, 0, 1), 1), False), ((3, (1, 1, 1), 1), False), ((3, (2, 4, 0), 2), False),
            ((3, (2, 5, 0), 2), True), ((4, (1, 1, 0, 0), 1), True), ((4, (1, 0, 0, 0), 1), False),
            ((4, (0, 0, 1, 0), 1), False), ((6, (0, 0, 1, 0, 0, 0), 1), False), ((6, (1, 0, 1, 0, 0, 0), 1), False),
        ):
            self.assert_is(thing, told)

    def test_greater_wheels(self):
        for x in some_values():
            for many in (2, 3, 4, 5, 7):
                if many * x[0] <= MOST:
                    self.assert_is((many * x[0], tuple(finer_told(x[1], many)), x[2]), False)

    def test_a_weight_in_a_hole_that_is_not_kept(self):
        for x in some_values():
            for hole in range(x[0]):
                if hole not in kept_told(x[0]):
                    weights = tuple(weight + (k == hole) for k, weight in enumerate(x[1]))
                    self.assert_is((x[0], weights, x[2]), False)
        # The same value, by a ring that brings a weight into such a hole.
        for n in (3, 4, 5, 12, 60, 420):
            x = some_value(n)
            for p in primes_of(n):
                weights = tuple(sum_told(x[1], ring_told(n, p, 0)))
                self.assertEqual(value(list(weights), x[2]) == x, True)
                self.assert_is((n, weights, x[2]), False)

    def test_bottoms_and_what_divides_all(self):
        for x in some_values():
            for bottom in (0, -1, -2, -x[2], -GREAT):
                self.assert_is((x[0], x[1], bottom), False)
            for many in (2, 3, 35, GREAT):
                self.assert_is((x[0], tuple(times_told(x[1], many)), x[2] * many), False)
            self.assert_is((x[0], tuple(times_told(x[1], -1)), -x[2]), False)

    def test_every_small_tuple(self):
        # Just those are values that some load tells.
        for n, most in ((1, 4), (2, 3), (3, 2), (4, 2), (5, 1), (6, 1)):
            for weights in itertools.product(range(-most, most + 1), repeat=n):
                for bottom in (-2, -1, 0, 1, 2, 3):
                    thing = (n, weights, bottom)
                    self.assert_is(thing, bottom != 0 and value(list(weights), bottom) == thing)

    def test_against_the_form(self):
        for n in range(1, 41):
            source = chance(n, "is value")
            for number in range(6):
                weights = tuple(
                    source.choice((0, 0, 1, 4)) if hole in kept_told(n) else source.choice((0,) * 60 + (1,))
                    for hole in range(n)
                )
                thing = (n, weights, source.choice((1, 2)))
                told = is_value(thing)
                try:
                    assert_form(self, thing)
                except AssertionError:
                    self.assertIs(told, False, thing)
                else:
                    self.assertIs(told, True, thing)

    def test_many_figures(self):
        self.assert_is((3, (TOLD, 1 - TOLD, 0), TOLD + 2), True)
        self.assert_is((3, (TOLD, 2 * TOLD, 0), TOLD), False)
        self.assert_is((3, (TOLD, 2 * TOLD, 0), -1), False)
        self.assert_is((1, (0,), TOLD), False)


class ListsAreTheAskersOwn(unittest.TestCase):
    def test_of_values(self):
        for n in (1, 2, 6, 12, 60, 420):
            for load in ([0] * n, small_load(n), great_load(n)):
                for bottom in (1, -6):
                    assert_own_list(self, value, load, bottom)

    def test_of_loads(self):
        for x in (NOUGHT, ONE, turn(3, 1), some_value(12), some_value(60)):
            for n in (60, 420):
                assert_own_list(self, on, x, n)
            assert_own_list(self, on, x, x[0])
            for y in (NOUGHT, ONE, x, turn(5, 1), added(x, ONE)):
                assert_own_list(self, apart, x, y)

    def test_the_load_and_the_paper_share_no_list(self):
        for x, y in ((ONE, NOUGHT), (turn(3, 1), NOUGHT), (NOUGHT, NOUGHT), (turn(4, 1), turn(3, 1))):
            load, paper = apart(x, y)
            kept = list(paper[1])
            load.append(7)
            load[0] = 9
            self.assertEqual(paper[1], kept)

    def test_the_same_for_the_same(self):
        for n in WHEELS:
            load = great_load(n)
            self.assertEqual(value(load, 12), value(list(load), 12))
        for x, y in ((turn(3, 1), turn(4, 1)), (some_value(12), some_value(15)), (some_value(60), some_value(60))):
            self.assertEqual(apart(x, y), apart(x, y))


class SomewhatBeyondTheBound(unittest.TestCase):
    def test_nothing_is_refused_for_it(self):
        for n in (421, 425, 450):
            load = small_load(n)
            x = value(load, 10)
            self.assertEqual(x[0], n if n % 4 != 2 else n // 2)
            self.assertTrue(same_told(x[1], x[2], load, 10))
            self.assertIs(is_value(x), True)
        self.assertEqual(turn(450, 2), turn(225, 1))
        self.assertEqual(turn(840, 420), whole(-1))
        self.assertIs(is_value((426, (1,) + (0,) * 425, 1)), False)


if __name__ == "__main__":
    unittest.main()
