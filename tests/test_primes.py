"""Points 2, 3, 7 and 8: parts, sign, divisors, units, and what leads back from a step."""

import unittest
from math import gcd

from evenhub import errors
from evenhub.primes import back, divisors, parts, sign, units
from evenhub.wholes import is_whole

MOST = 10000
GREAT = 10 ** 299 + 7


def prime_divisors():
    found = {n: [] for n in range(1, MOST + 1)}
    for p in range(2, MOST + 1):
        if not found[p]:
            for multiple in range(p, MOST + 1, p):
                found[multiple].append(p)
    return found


def all_divisors():
    found = {n: [] for n in range(1, MOST + 1)}
    for d in range(1, MOST + 1):
        for multiple in range(d, MOST + 1, d):
            found[multiple].append(d)
    return found


def parts_told(n, primes):
    told = []
    for p in primes:
        q = p
        while n % (q * p) == 0:
            q *= p
        told.append((p, q))
    return told


def sign_told(n, primes):
    if any(n % (p * p) == 0 for p in primes):
        return 0
    return 1 if len(primes) % 2 == 0 else -1


class Parts(unittest.TestCase):
    def test_written_ones(self):
        for n, told in (
            (1, []), (2, [(2, 2)]), (3, [(3, 3)]), (4, [(2, 4)]), (6, [(2, 2), (3, 3)]), (8, [(2, 8)]),
            (9, [(3, 9)]), (12, [(2, 4), (3, 3)]), (49, [(7, 49)]), (97, [(97, 97)]),
            (360, [(2, 8), (3, 9), (5, 5)]), (420, [(2, 4), (3, 3), (5, 5), (7, 7)]), (6561, [(3, 6561)]),
            (8192, [(2, 8192)]), (9409, [(97, 9409)]), (9973, [(9973, 9973)]), (9998, [(2, 2), (4999, 4999)]),
            (10000, [(2, 16), (5, 625)]),
        ):
            self.assertEqual(parts(n), told)

    def test_every_number(self):
        for n, primes in prime_divisors().items():
            self.assertEqual(parts(n), parts_told(n, primes), n)

    def test_kinds(self):
        for n in (1, 7, 360):
            told = parts(n)
            self.assertIsInstance(told, list)
            for pair in told:
                self.assertIsInstance(pair, tuple)
                self.assertTrue(all(is_whole(number) for number in pair))


class Sign(unittest.TestCase):
    def test_written_ones(self):
        for n, told in (
            (1, 1), (2, -1), (3, -1), (4, 0), (6, 1), (9, 0), (12, 0), (30, -1), (210, 1), (420, 0), (2310, -1),
            (9409, 0), (9973, -1), (9998, 1), (10000, 0),
        ):
            self.assertEqual(sign(n), told)

    def test_every_number(self):
        for n, primes in prime_divisors().items():
            told = sign(n)
            self.assertTrue(is_whole(told))
            self.assertEqual(told, sign_told(n, primes), n)


class Divisors(unittest.TestCase):
    def test_written_ones(self):
        for n, told in (
            (1, [1]), (2, [1, 2]), (8, [1, 2, 4, 8]), (12, [1, 2, 3, 4, 6, 12]), (97, [1, 97]), (49, [1, 7, 49]),
            (30, [1, 2, 3, 5, 6, 10, 15, 30]), (9973, [1, 9973]), (9998, [1, 2, 4999, 9998]),
        ):
            self.assertEqual(divisors(n), told)

    def test_every_number(self):
        for n, told in all_divisors().items():
            self.assertEqual(divisors(n), told, n)

    def test_kinds(self):
        self.assertIsInstance(divisors(12), list)


class Units(unittest.TestCase):
    def test_written_ones(self):
        for n, told in (
            (1, [1]), (2, [1]), (3, [1, 2]), (4, [1, 3]), (6, [1, 5]), (7, [1, 2, 3, 4, 5, 6]), (9, [1, 2, 4, 5, 7, 8]),
            (12, [1, 5, 7, 11]), (30, [1, 7, 11, 13, 17, 19, 23, 29]),
        ):
            self.assertEqual(units(n), told)

    def test_many_numbers(self):
        for n in list(range(1, 421)) + [1024, 2310, 6561, 9409, 9973, 9999, 10000]:
            self.assertEqual(units(n), [k for k in range(1, n + 1) if gcd(k, n) == 1], n)

    def test_kinds(self):
        self.assertIsInstance(units(12), list)


class Back(unittest.TestCase):
    def assert_refused(self, step, n):
        with self.assertRaises(errors.NoTurn) as taken:
            back(step, n)
        refused = taken.exception
        self.assertIsInstance(refused, errors.HubError)
        self.assertIsInstance(refused, ValueError)
        for other in (
            errors.NoFit, errors.TooWide, errors.NoRing, errors.NoHole, errors.NoWheel, errors.NoNumber,
            errors.NoQuotient, errors.NoText, errors.NoName, errors.NoRow,
        ):
            self.assertNotIsInstance(refused, other)

    def assert_leads_back(self, step, n):
        told = back(step, n)
        self.assertTrue(is_whole(told))
        self.assertTrue(1 <= told <= n)
        self.assertEqual(step * told % n, 1 % n)

    def test_written_ones(self):
        for step, n, told in (
            (1, 2, 1), (2, 3, 2), (3, 7, 5), (-1, 7, 6), (-3, 7, 2), (10, 7, 5), (7, 10000, 7143), (1, 10000, 1),
            (-1, 10000, 9999), (9999, 10000, 9999),
        ):
            self.assertEqual(back(step, n), told)

    def test_by_one_it_is_one(self):
        for step in (0, 1, -1, 2, -2, 420, GREAT, -GREAT):
            self.assertEqual(back(step, 1), 1)

    def test_every_step_of_small_numbers(self):
        for n in range(1, 49):
            for step in range(-2 * n - 3, 2 * n + 4):
                with self.subTest(step=step, n=n):
                    if gcd(step, n) == 1:
                        self.assert_leads_back(step, n)
                    else:
                        self.assert_refused(step, n)

    def test_nought_is_refused_but_by_one(self):
        for n in (2, 3, 4, 97, 420, 9973, 10000):
            self.assert_refused(0, n)
            self.assert_refused(n, n)
            self.assert_refused(-n, n)

    def test_steps_of_many_figures(self):
        for n in (2, 9, 97, 420, 9973, 9999, 10000):
            for step in (10 ** 299 + k for k in range(-20, 21)):
                for signed in (step, -step):
                    if gcd(signed, n) == 1:
                        self.assert_leads_back(signed, n)
                    else:
                        self.assert_refused(signed, n)

    def test_steps_of_more_figures_than_python_makes_a_text_of(self):
        # Such a step may be one that was told.
        self.assert_refused(10 ** 5000, 10000)
        self.assert_refused(-(10 ** 5000), 10000)
        self.assertEqual(back(10 ** 5000 + 1, 10000), 1)


class ListsAreTheAskersOwn(unittest.TestCase):
    def test_a_list_changed_by_the_asker_is_told_anew(self):
        for tell in (parts, divisors, units):
            for n in (1, 2, 12, 9973, 10000):
                with self.subTest(tell=tell.__name__, n=n):
                    told = tell(n)
                    before = list(told)
                    told.append((0, 0))
                    told.reverse()
                    self.assertEqual(tell(n), before)
                    told.clear()
                    self.assertEqual(tell(n), before)

    def test_a_list_is_not_changed_by_what_is_asked_later(self):
        for tell in (parts, divisors, units):
            told = tell(12)
            before = list(told)
            self.assertIsNot(tell(12), told)
            for n in (1, 12, 13, 24):
                tell(n).append((0, 0))
            self.assertEqual(told, before)


class SomewhatBeyondTheBound(unittest.TestCase):
    def test_nothing_is_refused_for_it(self):
        self.assertEqual(parts(10007), [(10007, 10007)])
        self.assertEqual(parts(10201), [(101, 10201)])
        self.assertEqual(sign(10001), 1)
        self.assertEqual(divisors(10001), [1, 73, 137, 10001])
        self.assertEqual(units(10007), list(range(1, 10007)))
        self.assertEqual(back(2, 10007), 5004)
        self.assert_refused_step()

    def assert_refused_step(self):
        with self.assertRaises(errors.NoTurn):
            back(101, 10201)


if __name__ == "__main__":
    unittest.main()
