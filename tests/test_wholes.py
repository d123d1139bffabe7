"""Points 2, 3 and 6: whole numbers, the divisor, the joint, the power rest."""

import unittest

from evenhub.wholes import divisor, euclid, is_whole, joint, power_rest
from samples import chance

GREAT = 10 ** 299 + 7
# Three primes, so that the divisors of their products are known without reckoning them.
PRIME_61 = 2 ** 61 - 1
PRIME_89 = 2 ** 89 - 1
PRIME_521 = 2 ** 521 - 1


def greatest_common(one, other):
    return max(d for d in range(1, abs(one) + abs(other) + 1) if one % d == 0 and other % d == 0)


def euclid_told(one, other, bits):
    # One quotient after the other, as it is written.
    rest, count, later_rest, later_count = one, 0, other, 1
    while later_rest.bit_length() > bits:
        many = rest // later_rest
        rest, later_rest = later_rest, rest - many * later_rest
        count, later_count = later_count, count - many * later_count
    return rest, count, later_rest, later_count


def least_shared(one, other):
    return min(m for m in range(1, one * other + 1) if m % one == 0 and m % other == 0)


class IsWhole(unittest.TestCase):
    def test_ints_of_every_size_and_sign_are_whole(self):
        for thing in (0, 1, -1, 2, -2, 420, 10 ** 299, -GREAT, GREAT, 10 ** 5000, -(10 ** 5000)):
            self.assertIs(is_whole(thing), True)

    def test_truths_are_not_whole(self):
        self.assertIs(is_whole(True), False)
        self.assertIs(is_whole(False), False)

    def test_other_things_are_not_whole(self):
        things = (
            None, "", "0", "1", "5", "word", [], [1], [0, 1], (), (1,), (0, 1), {}, {1: 1}, {"a": 1},
            [True], set(), {1}, b"1", 0.0, 1.0, 1.5, 1j, int, object(), ValueError(1), is_whole,
        )
        for thing in things:
            with self.subTest(thing=thing):
                self.assertIs(is_whole(thing), False)

    def test_what_is_handed_in_is_not_changed(self):
        things = [[1, [2]], {1: [2]}]
        for thing in things:
            is_whole(thing)
        self.assertEqual(things, [[1, [2]], {1: [2]}])


class Divisor(unittest.TestCase):
    def test_small_numbers_of_both_signs_by_what_the_point_says(self):
        for one in range(-24, 25):
            for other in range(-24, 25):
                if (one, other) != (0, 0):
                    with self.subTest(one=one, other=other):
                        self.assertEqual(divisor(one, other), greatest_common(one, other))

    def test_nought_with_nought(self):
        self.assertEqual(divisor(0, 0), 0)

    def test_nought_with_another(self):
        for other in (1, -1, 7, -7, 10000, GREAT, -GREAT):
            self.assertEqual(divisor(0, other), abs(other))
            self.assertEqual(divisor(other, 0), abs(other))

    def test_a_number_with_itself(self):
        for one in (1, -1, 12, -12, GREAT, -GREAT):
            self.assertEqual(divisor(one, one), abs(one))
            self.assertEqual(divisor(one, -one), abs(one))

    def test_numbers_of_many_figures(self):
        one = PRIME_521 * PRIME_61 * 12
        other = PRIME_521 * PRIME_89 * 18
        for first in (one, -one):
            for second in (other, -other):
                self.assertEqual(divisor(first, second), PRIME_521 * 6)
                self.assertEqual(divisor(second, first), PRIME_521 * 6)
        self.assertEqual(divisor(PRIME_521, PRIME_89), 1)
        self.assertEqual(divisor(10 ** 299, 2 ** 350), 2 ** 299)

    def test_neighbours_in_the_longest_walk(self):
        one, other = 1, 1
        while other < 10 ** 299:
            one, other = other, one + other
        self.assertEqual(divisor(one, other), 1)
        self.assertEqual(divisor(other * 6, one * 6), 6)


class Joint(unittest.TestCase):
    def test_small_numbers_by_what_the_point_says(self):
        for one in range(1, 19):
            for other in range(1, 19):
                with self.subTest(one=one, other=other):
                    self.assertEqual(joint(one, other), least_shared(one, other))

    def test_a_number_with_itself_and_with_a_multiple(self):
        for one in (1, 2, 12, 420, GREAT):
            self.assertEqual(joint(one, one), one)
            for many in (2, 3, 35, PRIME_61):
                self.assertEqual(joint(one, one * many), one * many)
                self.assertEqual(joint(one * many, one), one * many)

    def test_one_with_any(self):
        for other in (1, 2, 9, GREAT):
            self.assertEqual(joint(1, other), other)
            self.assertEqual(joint(other, 1), other)

    def test_numbers_of_many_figures(self):
        one = PRIME_521 * PRIME_61 * 12
        other = PRIME_521 * PRIME_89 * 18
        shared = PRIME_521 * PRIME_61 * PRIME_89 * 36
        self.assertEqual(joint(one, other), shared)
        self.assertEqual(joint(other, one), shared)

    def test_what_was_told_is_handed_in_again(self):
        told = joint(10 ** 299, 10 ** 299 - 1)
        self.assertEqual(told, 10 ** 299 * (10 ** 299 - 1))
        self.assertEqual(divisor(told, 10 ** 299), 10 ** 299)
        self.assertEqual(joint(told, 10 ** 299 - 1), told)
        self.assertEqual(power_rest(told, told, 10 ** 299 - 1), 0)


class PowerRest(unittest.TestCase):
    def test_small_numbers_by_what_the_point_says(self):
        for base in range(-9, 10):
            for many in range(0, 9):
                for n in range(1, 14):
                    with self.subTest(base=base, many=many, n=n):
                        self.assertEqual(power_rest(base, many, n), base ** many % n)

    def test_taken_no_times(self):
        for base in (0, 1, -1, 5, GREAT, -GREAT):
            self.assertEqual(power_rest(base, 0, 1), 0)
            for n in (2, 3, 10000, GREAT):
                self.assertEqual(power_rest(base, 0, n), 1)

    def test_taken_one_time(self):
        for base in (0, 1, -1, 5, -5, GREAT, -GREAT):
            for n in (1, 2, 7, 10000, GREAT):
                self.assertEqual(power_rest(base, 1, n), base % n)

    def test_by_one_it_is_nought(self):
        for base in (0, 1, -1, GREAT, -GREAT):
            for many in (0, 1, 2, 99, GREAT):
                self.assertEqual(power_rest(base, many, 1), 0)

    def test_counts_of_many_figures(self):
        for base in (2, 3, -2, GREAT, -GREAT):
            # By a prime a number that it doesn't divide, taken one time less than the prime, leaves 1.
            self.assertEqual(power_rest(base, PRIME_521 - 1, PRIME_521), 1)
            self.assertEqual(power_rest(base, PRIME_521, PRIME_521), base % PRIME_521)
        self.assertEqual(power_rest(10, 10 ** 299, 7), 10 ** 4 % 7)
        self.assertEqual(power_rest(-1, 10 ** 299, 1000), 1)
        self.assertEqual(power_rest(-1, 10 ** 299 + 1, 1000), 999)
        self.assertEqual(power_rest(0, 10 ** 299, 1000), 0)

    def test_always_a_rest_by_n(self):
        for base in (-GREAT, -7, -1, 0, 1, 7, GREAT):
            for many in (0, 1, 2, 3, 10, 101, 10 ** 299, 10 ** 299 + 1):
                for n in (1, 2, 3, 9, 10000, GREAT):
                    rest = power_rest(base, many, n)
                    self.assertIs(is_whole(rest), True)
                    self.assertTrue(0 <= rest < n)
                    self.assertEqual(rest, pow(base, many, n))


class Euclid(unittest.TestCase):
    def test_small_numbers(self):
        for one in range(40):
            for other in range(40):
                for bits in range(7):
                    self.assertEqual(euclid(one, other, bits), euclid_told(one, other, bits))

    def test_numbers_of_every_length(self):
        for number in range(3000):
            source = chance("euclid", number)
            one, other = (source.getrandbits(source.randint(0, 900)) for k in range(2))
            if number % 4 == 1:
                shared = source.getrandbits(200)
                one, other = one * shared, other * shared
            if number % 4 == 2:
                # A great quotient, and then a rest far shorter.
                one = other * source.getrandbits(150) + source.getrandbits(20)
            for bits in (0, source.randint(0, 900)):
                self.assertEqual(euclid(one, other, bits), euclid_told(one, other, bits))

    def test_quotients_that_hang_on_the_last_bits(self):
        for number in range(300):
            source = chance("last bits", number)
            one = 1 << source.randint(200, 600)
            for other in (one, one - 1, one + 1, one // 2 + 1, one // 3, one // 3 + 1, one * 2 - 1):
                for bits in (0, 50):
                    self.assertEqual(euclid(one, other, bits), euclid_told(one, other, bits))


if __name__ == "__main__":
    unittest.main()
