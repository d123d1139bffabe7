"""Points 2, 3 and 27: the sides of a value, the mirrored value, the sum and the product of the sides."""

import itertools
import unittest
from math import gcd

from evenhub.errors import NoTurn, TooWide
from evenhub.pulls import pulled
from evenhub.sides import mirrored, side, side_product, side_sum, sides
from evenhub.tellings import added, against, is_value, times, turn, value, whole
from samples import (
    GREAT, TOLD, assert_form, assert_own_list, assert_refused, assert_tells, chance, laid_on_told, same_told,
    skipped_told, sum_told, units_told,
)

NOUGHT = (1, (0,), 1)
ONE = (1, (1,), 1)
# The own wheels that all sides are told of, and greater ones.
NARROW = [n for n in range(1, 61) if n % 4 != 2]
WIDE = [n for n in range(61, 421) if n % 4 != 2]


def some_value(n, *words, most=9):
    # On the wheel of n holes and no lesser one.
    source = chance(n, most, "side", *words)
    x = NOUGHT
    while x[0] != n:
        x = value([source.randint(-most, most) for hole in range(n)], source.choice((1, 2, 3, -5, 12)))
    return x


def steps_come_to(n, steps):
    found = [1]
    for hole in found:
        found.extend(hole * step % n for step in steps if hole * step % n not in found)
    return found


def period(n, steps):
    # The sum of the turns by all that these steps come to.
    return value([int(hole in steps_come_to(n, steps)) for hole in range(n)], 1)


def folded_value(n, steps, *words):
    # One that skips by these steps leave as it is: a load summed with all of its skips by what they come to.
    source = chance(n, *steps, "folded", *words)
    load = [source.randint(-3, 3) for hole in range(n)]
    skips = [skipped_told(load, step) for step in steps_come_to(n, steps)]
    return value([sum(weights) for weights in zip(*skips)], source.choice((1, 2, 15)))


def some_values():
    found = [NOUGHT, ONE, whole(-3), whole(GREAT), value([7], 12), turn(3, 1), turn(8, 1), turn(5, 3), turn(60, 7)]
    found.extend(some_value(n, "some") for n in NARROW)
    found.extend(folded_value(n, [n - 1]) for n in NARROW)
    for n, steps in (
        (5, [2]), (7, [2]), (7, [3]), (8, [3]), (8, [5]), (12, [5]), (12, [7]), (13, [3]), (15, [2]), (16, [3]),
        (20, [3]), (24, [5, 7]), (24, [11, 13]), (31, [2]), (35, [6]), (40, [3]), (60, [7]), (60, [11, 19]), (60, [59]),
    ):
        found.append(folded_value(n, steps))
        found.append(period(n, steps))
    return found


def sides_told(x):
    # By skips of the load, told apart by evenness alone.
    found = []
    for step in units_told(x[0]):
        load = skipped_told(x[1], step)
        if not any(same_told(load, 1, other, 1) for other in found):
            found.append(load)
    return found


def product_shown(x, prime):
    # What the product of all skips leaves by a prime of which n divides the number ahead: a number whose power to n
    # is the first to leave 1 stands there for the turn.
    n = x[0]
    roots = [pow(k, (prime - 1) // n, prime) for k in range(2, prime)]
    first = next(h for h in roots if all(pow(h, d, prime) != 1 for d in range(1, n)))
    outcome = 1
    for step in units_told(n):
        shown = sum(weight * pow(first, step * hole, prime) for hole, weight in enumerate(x[1]))
        outcome = outcome * shown * pow(x[2], -1, prime) % prime
    return outcome


class Side(unittest.TestCase):
    def assert_side(self, x, step):
        told = side(x, step)
        self.assertEqual(told, value(skipped_told(x[1], step), x[2]))
        return told

    def test_written_ones(self):
        self.assertEqual(side(NOUGHT, 5), NOUGHT)
        self.assertEqual(side(value([7], 12), 0), value([7], 12))
        self.assertEqual(side(turn(3, 1), 2), (3, (-1, -1, 0), 1))
        self.assertEqual(side(turn(4, 1), -1), (4, (0, -1, 0, 0), 1))
        self.assertEqual(side(turn(5, 1), 2), turn(5, 2))
        self.assertEqual(side((5, (1, 2, 3, 4, 0), 7), 3), value([1, 3, 0, 2, 4], 7))

    def test_against_the_weights_skipped(self):
        for x in some_values():
            for step in units_told(x[0]):
                self.assert_side(x, step)

    def test_the_form(self):
        for number, x in enumerate(some_values()):
            if number % 3 == 0:
                step = units_told(x[0])[-1 - number % 2] if x[0] > 2 else 1
                assert_tells(self, side(x, step), skipped_told(x[1], step), x[2])

    def test_the_own_wheel_and_the_bottom_stay(self):
        for x in some_values():
            for step in units_told(x[0]):
                told = side(x, step)
                self.assertEqual((told[0], told[2]), (x[0], x[2]))

    def test_steps_of_any_kind(self):
        for n in (1, 3, 4, 12, 15, 60, 97, 420):
            x = some_value(n, "steps", most=GREAT)
            for step in [k for k in units_told(n) if k < 12] + [n - 1]:
                told = self.assert_side(x, step)
                for far in (1, -1, 7, GREAT, -GREAT, TOLD, -TOLD):
                    self.assertEqual(side(x, step + n * far), told)

    def test_steps_without_the_divisor_1(self):
        for n in (3, 4, 5, 12, 60, 97, 360, 420):
            x = some_value(n)
            for step in [0, n, -n, 2 * n, n * GREAT, n * TOLD] + [k for k in range(-n, n) if gcd(k, n) != 1][:40]:
                assert_refused(self, NoTurn, side, x, step)
        for step in (2, 4, -6, 2 * GREAT, 2 * TOLD):
            assert_refused(self, NoTurn, side, turn(8, 1), step)

    def test_every_step_of_a_value_on_the_wheel_of_one_hole(self):
        for x in (NOUGHT, ONE, value([7], 12), whole(GREAT)):
            for step in (0, 1, -1, 2, 60, GREAT, -TOLD):
                self.assertEqual(side(x, step), x)

    def test_wheels_of_more_than_60_holes(self):
        for n in WIDE:
            x = some_value(n, "wide")
            self.assertEqual(x[0], n)
            self.assert_side(x, n - 1)
            self.assert_side(x, units_told(n)[1])

    def test_a_side_of_a_side(self):
        for n in (3, 8, 15, 60, 360, 419):
            x = some_value(n)
            for one, other in itertools.product(units_told(n)[:6], repeat=2):
                self.assertEqual(side(side(x, one), other), side(x, one * other))
            self.assertEqual(side(x, 1), x)

    def test_sides_of_sums_and_products(self):
        for n, other in ((1, 5), (3, 4), (5, 5), (12, 8), (15, 20), (60, 60), (20, 21), (360, 40), (420, 60)):
            x, y = some_value(n, "one"), some_value(other, "two", most=GREAT)
            for step in (1, -1, 11, 13, 17, 419):
                if gcd(step, n * other) == 1:
                    self.assertEqual(side(added(x, y), step), added(side(x, step), side(y, step)))
                    self.assertEqual(side(times(x, y), step), times(side(x, step), side(y, step)))

    def test_more_figures_than_python_makes_a_text_of(self):
        x = value([TOLD, 1, -TOLD, 3, 0], TOLD + 2)
        told = side(x, 2)
        self.assertTrue(told == value([TOLD, 3, 1, 0, -TOLD], TOLD + 2))
        self.assertTrue(side(told, 3) == x)


class Mirrored(unittest.TestCase):
    def test_written_ones(self):
        self.assertEqual(mirrored(NOUGHT), NOUGHT)
        self.assertEqual(mirrored(value([-7], 12)), value([-7], 12))
        self.assertEqual(mirrored(turn(4, 1)), against(turn(4, 1)))
        self.assertEqual(mirrored(turn(5, 1)), (5, (-1, -1, -1, -1, 0), 1))

    def test_the_side_by_minus_1(self):
        for x in some_values() + [some_value(n) for n in WIDE]:
            told = mirrored(x)
            self.assertEqual(told, side(x, -1))
            self.assertEqual(told, value(skipped_told(x[1], -1), x[2]))
            self.assertEqual(mirrored(told), x)

    def test_turns(self):
        for n in (1, 2, 3, 4, 6, 60, 61, 97, 210, 419, 420):
            for hole in (0, 1, n // 2, n - 1):
                self.assertEqual(mirrored(turn(n, hole)), turn(n, -hole))
                self.assertEqual(times(turn(n, hole), mirrored(turn(n, hole))), ONE)

    def test_what_is_its_own_mirrored_value(self):
        for n in (5, 8, 12, 60, 360, 419):
            x = some_value(n)
            self.assertNotEqual(mirrored(x), x)
            for y in (added(x, mirrored(x)), times(x, mirrored(x))):
                self.assertEqual(mirrored(y), y)


class Sides(unittest.TestCase):
    def test_written_ones(self):
        third, fourth = turn(3, 1), turn(4, 1)
        golden = added(turn(5, 1), turn(5, -1))
        for x, told in (
            (NOUGHT, [NOUGHT]), (ONE, [ONE]), (value([7], -12), [value([-7], 12)]), (third, [third, turn(3, 2)]),
            (fourth, [fourth, against(fourth)]), (golden, [golden, added(turn(5, 2), turn(5, 3))]),
            (turn(5, 2), [turn(5, 2), turn(5, 4), turn(5, 1), turn(5, 3)]),
            (added(turn(8, 1), turn(8, 3)), [added(turn(8, 1), turn(8, 3)), added(turn(8, 5), turn(8, 7))]),
        ):
            self.assertEqual(sides(x), told)

    def test_each_unlike_one_once_where_it_comes_first(self):
        for x in some_values():
            told = sides(x)
            self.assertIs(type(told), list)
            found = []
            for step in units_told(x[0]):
                if side(x, step) not in found:
                    found.append(side(x, step))
            self.assertEqual(told, found)
            self.assertEqual(told[0], x)
            self.assertEqual(len(units_told(x[0])) % len(told), 0)

    def test_against_skips_told_apart_by_evenness_alone(self):
        for number, x in enumerate(some_values()):
            if x[0] <= 20 or number % 5 == 0:
                told = sides(x)
                by_skips = sides_told(x)
                self.assertEqual(len(told), len(by_skips))
                for other, load in zip(told, by_skips):
                    self.assertTrue(same_told(other[1], other[2], load, x[2]))

    def test_all_sides_have_the_same_ones(self):
        for x in some_values():
            told = sides(x)
            for other in told[:5]:
                self.assertEqual(sorted(sides(other)), sorted(told))
                self.assertIs(is_value(other), True)

    def test_fewer_where_skips_leave_the_value_as_it_is(self):
        for x, many in (
            (period(7, [2]), 2), (period(7, [6]), 3), (period(7, [3]), 1), (period(13, [3]), 4), (period(31, [2]), 6),
            (period(60, [59]), 8), (period(24, [5, 7]), 2), (turn(60, 5), 4), (times(turn(8, 1), turn(8, 1)), 2),
            (turn(59, 1), 58), (turn(60, 1), 16), (turn(49, 1), 42),
        ):
            self.assertEqual(len(sides(x)), many, x)

    def test_wheels_of_more_than_60_holes(self):
        for n in WIDE:
            for x in (turn(n, 1), some_value(n)):
                self.assertEqual(x[0], n)
                for asked in (sides, side_sum, side_product):
                    assert_refused(self, TooWide, asked, x)
        # Such as have few sides, down to two of them, all on a wide wheel.
        for n, steps in ((61, [60]), (61, [4]), (65, [64, 8]), (105, [104, 8]), (420, [419]), (419, [4])):
            x = period(n, steps)
            self.assertEqual(x[0], n)
            for asked in (sides, side_sum, side_product):
                assert_refused(self, TooWide, asked, x)

    def test_no_refusal_for_a_wheel_that_is_not_the_own_one(self):
        # Loads of wide wheels whose values have narrow ones.
        for n, hole, own in ((420, 7, 60), (118, 1, 59), (62, 2, 31), (420, 210, 1), (90, 1, 45), (66, 1, 33)):
            x = turn(n, hole)
            self.assertEqual(x[0], own)
            self.assertEqual(sides(x)[0], x)
            self.assertEqual(side_product(x)[0], 1)
            self.assertEqual(side_sum(x)[0], 1)


class SumAndProduct(unittest.TestCase):
    def assert_both(self, x):
        total, product = side_sum(x), side_product(x)
        bottom = x[2]
        load, laid = [0] * x[0], [1] + [0] * (x[0] - 1)
        told = sides(x)
        for other in told:
            load = sum_told(load, other[1])
            laid = laid_on_told(laid, other[1])
        for outcome in (total, product):
            self.assertEqual(outcome[0], 1)
            assert_form(self, outcome)
        self.assertTrue(same_told(total[1], total[2], load, bottom))
        self.assertTrue(same_told(product[1], product[2], laid, bottom ** len(told)))

    def test_written_ones(self):
        golden = added(turn(5, 1), turn(5, -1))
        for x, total, product in (
            (NOUGHT, NOUGHT, NOUGHT), (ONE, ONE, ONE), (value([7], 12), value([7], 12), value([7], 12)),
            (turn(3, 1), whole(-1), ONE), (turn(4, 1), NOUGHT, ONE), (golden, whole(-1), whole(-1)),
            (added(turn(8, 1), turn(8, -1)), NOUGHT, whole(-2)), (added(ONE, turn(4, 1)), whole(2), whole(2)),
            (value([2, 1, 0, 0], 3), value([4], 3), value([5], 9)), (turn(60, 1), NOUGHT, ONE),
            (turn(15, 1), ONE, ONE), (turn(59, 1), whole(-1), ONE),
        ):
            self.assertEqual(side_sum(x), total, x)
            self.assertEqual(side_product(x), product, x)

    def test_many(self):
        for x in some_values():
            self.assert_both(x)

    def test_one_less_a_turn(self):
        # The product of the sides is p where the wheel has a power of the prime p of holes, else 1.
        for n in NARROW[1:]:
            primes = [p for p in range(2, n + 1) if n % p == 0 and all(p % d for d in range(2, p))]
            told = side_product(added(ONE, against(turn(n, 1))))
            self.assertEqual(told, whole(primes[0]) if len(primes) == 1 else ONE)

    def test_products_that_come_to_a_lesser_wheel_ahead_of_the_end(self):
        # Here a part of the sides has a product that further steps leave as it is, so it is taken again for them.
        for n in NARROW:
            self.assert_both(added(turn(n, 1), turn(n, 2)))
            self.assert_both(times(turn(n, 1), value([3], 2)))
            self.assert_both(added(turn(n, 1), mirrored(turn(n, 1))))
        for n, other in ((4, 3), (8, 3), (4, 5), (8, 5), (4, 15), (3, 5), (12, 5), (7, 8), (3, 16)):
            self.assert_both(times(added(turn(n, 1), mirrored(turn(n, 1))), turn(other, 1)))
            self.assert_both(added(times(whole(2), turn(n, 1)), turn(other, 1)))

    def test_against_the_list(self):
        for x in some_values():
            total, product = NOUGHT, ONE
            for other in sides(x):
                total, product = added(total, other), times(product, other)
            self.assertEqual(side_sum(x), total)
            self.assertEqual(side_product(x), product)

    def test_all_sides_have_the_same_sum_and_product(self):
        for x in some_values():
            for other in sides(x)[-2:]:
                self.assertEqual(side_sum(other), side_sum(x))
                self.assertEqual(side_product(other), side_product(x))

    def test_just_nought_has_the_product_nought(self):
        for x in some_values():
            self.assertEqual(side_product(x) == NOUGHT, x == NOUGHT)

    def test_many_figures(self):
        for n in (1, 3, 4, 5, 8, 12, 15, 24, 60):
            self.assert_both(some_value(n, "figures", most=GREAT))
        for n in (1, 3, 5):
            self.assert_both(value([TOLD + hole * hole * hole for hole in range(n)], 6 * TOLD + 1))

    def test_the_sum_is_what_the_load_is_pulled(self):
        # A side comes by as many steps as leave it as it is; the load skipped by all steps sums to what it is pulled.
        for x in some_values():
            many = len(units_told(x[0])) // len(sides(x))
            self.assertEqual(times(whole(many), side_sum(x)), value([pulled(list(x[1]), 0)], x[2]))

    def test_as_many_sides_as_there_are_with_many_figures(self):
        source = chance("most")
        for n in (59, 49):
            x = value([source.randint(-GREAT, GREAT) for hole in range(n)], GREAT)
            self.assertEqual(side_sum(x), value([pulled(list(x[1]), 0)], x[2]))
            product = side_product(x)
            self.assertEqual(product[0], 1)
            primes = [q for q in range(n + 1, 9000, n) if all(q % d for d in range(2, 100))]
            for prime in primes[:4]:
                self.assertEqual(product[1][0] % prime, product_shown(x, prime) * product[2] % prime)


class ListsAreTheAskersOwn(unittest.TestCase):
    def test_of_sides(self):
        for x in (NOUGHT, ONE, turn(3, 1), some_value(12), some_value(60), folded_value(15, [2])):
            assert_own_list(self, sides, x)

    def test_the_same_for_the_same(self):
        for n in (12, 60, 419):
            x = some_value(n)
            self.assertEqual(side(x, -1), side(x, -1))
            if n <= 60:
                self.assertEqual(sides(x), sides(x))
                self.assertEqual(side_product(x), side_product(x))


class SomewhatBeyondTheBound(unittest.TestCase):
    def test_a_side_is_not_refused_for_it(self):
        for n in (421, 425):
            x = some_value(n)
            self.assertEqual(mirrored(mirrored(x)), x)
            self.assertEqual(side(x, 2), value(skipped_told(x[1], 2), x[2]))
            for asked in (sides, side_sum, side_product):
                assert_refused(self, TooWide, asked, x)


if __name__ == "__main__":
    unittest.main()
