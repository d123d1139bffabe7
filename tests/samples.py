"""What several tests share: numbers of many figures, loads, steps, second ways to what is told, what is asked often."""

import itertools
import random
from functools import lru_cache
from math import gcd, lcm

from evenhub import errors

GREAT = 10 ** 299 + 7
# More figures than Python makes a text of: such numbers come of what was told.
TOLD = 10 ** 5000 + 9

REFUSALS = (
    errors.NoTurn, errors.NoFit, errors.TooWide, errors.NoRing, errors.NoHole, errors.NoWheel, errors.NoNumber,
    errors.NoQuotient, errors.NoText, errors.NoName, errors.NoRow,
)

# Wheels with no prime, one, two, three and four of them, with and without squares, up to the most holes.
WHEELS = (
    1, 2, 3, 4, 5, 6, 7, 8, 9, 10, 12, 15, 16, 18, 20, 24, 25, 27, 30, 36, 42, 60, 64, 81, 90, 97, 105, 125, 128, 180,
    210, 243, 256, 289, 315, 330, 343, 360, 390, 396, 400, 409, 418, 419, 420,
)
FEW_WHEELS = (1, 2, 3, 4, 6, 8, 9, 12, 15, 30, 36, 97, 210, 420)


def chance(*words):
    # The same for the same words, so that each run asks the same.
    return random.Random(" ".join(str(word) for word in words))


def small_load(n, *words):
    source = chance(n, *words)
    return [source.randint(-9, 9) for hole in range(n)]


def sparse_load(n, *words):
    source = chance(n, *words)
    return [source.choice((0, 0, 0, 0, 1, -1, 5)) for hole in range(n)]


def great_load(n, *words):
    source = chance(n, *words)
    return [source.randint(-GREAT, GREAT) for hole in range(n)]


def loads_of(n, *words):
    return [
        [0] * n, [1] * n, [0] * (n - 1) + [1], small_load(n, *words), sparse_load(n, *words), great_load(n, *words),
    ]


@lru_cache(None)
def primes_of(n):
    return tuple(p for p in range(2, n + 1) if n % p == 0 and all(p % d for d in range(2, p)))


def ring_told(n, p, hole):
    places = [(hole + k * (n // p)) % n for k in range(p)]
    return [1 if place in places else 0 for place in range(n)]


def laid_told(n, rows):
    load = [0] * n
    for p, hole, many in rows:
        load = [weight + many * more for weight, more in zip(load, ring_told(n, p, hole))]
    return load


def parts_told(n):
    return [(p, max(p ** k for k in range(1, 10) if n % p ** k == 0)) for p in primes_of(n)]


@lru_cache(None)
def shares_by_hole(n):
    # Every list of shares there is, by the hole that it comes to.
    found = {hole: [] for hole in range(n)}
    parts = parts_told(n)
    for told in itertools.product(*[range(q) for p, q in parts]):
        found[sum(c * (n // q) for c, (p, q) in zip(told, parts)) % n].append(list(told))
    return found


def some_rows(n, count, *words, most=9):
    source = chance(n, count, *words)
    primes = primes_of(n)
    if not primes:
        return []
    return [
        (source.choice(primes), source.randint(-3 * n, 3 * n), source.randint(-most, most)) for k in range(count)
    ]


def sum_told(one, other):
    return [weight + more for weight, more in zip(one, other, strict=True)]


def times_told(load, many):
    return [weight * many for weight in load]


def laid_on_told(one, other):
    n = len(one)
    told = [0] * n
    for j in range(n):
        for k in range(n):
            told[(j + k) % n] += one[j] * other[k]
    return told


def finer_told(load, many):
    told = [0] * (many * len(load))
    told[::many] = load
    return told


def skipped_told(load, step):
    n = len(load)
    return [weight for place, weight in sorted((hole * step % n, weight) for hole, weight in enumerate(load))]


def divided(numbers, by):
    # The row of numbers, as one in powers, divided by a row whose last number is 1: the quotient and what is left.
    left = list(numbers)
    quotient = [0] * max(len(left) - len(by) + 1, 0)
    for k in range(len(quotient) - 1, -1, -1):
        quotient[k] = left[k + len(by) - 1]
        for j, number in enumerate(by):
            left[k + j] -= quotient[k] * number
    return quotient, left


@lru_cache(None)
def circle_row(n):
    # The row that just the turns with the least wheel n are roots of.
    row = [-1] + [0] * (n - 1) + [1]
    for d in range(1, n):
        if n % d == 0:
            row, left = divided(row, circle_row(d))
            assert not any(left)
    return tuple(row)


def even_told(load):
    # A load is even just where the circle row of its wheel divides it: a way that knows of no rings.
    quotient, left = divided(load, circle_row(len(load)))
    return not any(left)


@lru_cache(None)
def kept_told(n):
    parts = parts_told(n)
    return tuple(
        hole for hole, (told,) in shares_by_hole(n).items()
        if all(c // (q // p) != p - 1 for c, (p, q) in zip(told, parts))
    )


def units_told(n):
    return [k for k in range(1, n + 1) if gcd(k, n) == 1]


def is_told_on(load, n):
    # Whether the wheel of n holes has a load that tells the same: just where all skips by steps that leave 1 by n
    # leave the load as it is, but for an even one.
    steps = [step for step in units_told(len(load)) if (step - 1) % n == 0]
    return all(even_told(sum_told(skipped_told(load, step), times_told(load, -1))) for step in steps)


def same_told(one, bottom, other, other_bottom):
    # Whether two loads with bottoms tell the same value: on one wheel, each times the other's bottom.
    n = lcm(len(one), len(other))
    raised = times_told(finer_told(one, n // len(one)), other_bottom)
    return even_told(sum_told(raised, times_told(finer_told(other, n // len(other)), -bottom)))


def weighed_told(load, weights):
    return sum(weight * number for weight, number in zip(load, weights, strict=True))


def rings_weigh_nought(weights):
    n = len(weights)
    return not any(sum(weights[s::n // p]) for p in primes_of(n) for s in range(n // p))


def assert_refused(test, refusal, asked, *handed):
    with test.assertRaises(refusal) as taken:
        asked(*handed)
    test.assertIsInstance(taken.exception, errors.HubError)
    test.assertIsInstance(taken.exception, ValueError)
    for other in REFUSALS:
        if other is not refusal:
            test.assertNotIsInstance(taken.exception, other)


def assert_load(test, load, n):
    test.assertIs(type(load), list)
    test.assertEqual(len(load), n)
    for weight in load:
        test.assertIs(type(weight), int)


def assert_rows(test, n, rows):
    test.assertIs(type(rows), list)
    for row in rows:
        test.assertIs(type(row), tuple)
        test.assertTrue(all(type(number) is int for number in row))
        p, hole, many = row
        test.assertIn(p, primes_of(n))
        test.assertTrue(0 <= hole < n)
        test.assertNotEqual(many, 0)
    test.assertEqual(len({(p, hole) for p, hole, many in rows}), len(rows))


def assert_form(test, x):
    # All that can be seen of a value by its tuple alone, but for the least wheel.
    test.assertIs(type(x), tuple)
    n, weights, bottom = x
    test.assertIs(type(n), int)
    test.assertNotEqual(n % 4, 2)
    test.assertIs(type(weights), tuple)
    test.assertEqual(len(weights), n)
    test.assertTrue(all(type(number) is int for number in weights + (bottom,)))
    test.assertGreaterEqual(bottom, 1)
    test.assertEqual(gcd(bottom, *weights), 1)
    test.assertFalse(any(weight for hole, weight in enumerate(weights) if hole not in kept_told(n)))
    # On no lesser wheel: of one prime less.
    test.assertFalse(any(n > 1 and is_told_on(weights, n // p) for p in primes_of(n)), n)


def assert_tells(test, x, load, bottom):
    assert_form(test, x)
    test.assertTrue(same_told(x[1], x[2], load, bottom))


def some_numbers(count, most, *words):
    source = chance(count, most, *words)
    return [source.randint(-most, most) for k in range(count)]


def some_steps(count, size, most, *words):
    return [some_numbers(size, most, count, k, *words) for k in range(count)]


def taken_told(steps, counts, size):
    return [sum(many * step[k] for many, step in zip(counts, steps, strict=True)) for k in range(size)]


def assert_counts(test, counts, size):
    test.assertIs(type(counts), list)
    test.assertEqual(len(counts), size)
    test.assertTrue(all(type(many) is int for many in counts))


def assert_bar(test, bar, steps, goal):
    # Each step weighs what the modulus divides, and the goal doesn't; told back is the modulus.
    word, weights, modulus = bar
    test.assertEqual(word, "bar")
    assert_counts(test, weights, len(goal))
    test.assertIs(type(modulus), int)
    test.assertTrue(modulus == 0 or modulus >= 2)
    rests = [weighed_told(step, weights) for step in steps + [goal]]
    if modulus:
        rests = [number % modulus for number in rests]
    test.assertFalse(any(rests[:-1]))
    test.assertNotEqual(rests[-1], 0)
    return modulus


def assert_own_list(test, asked, *handed):
    # Lists of what is handed in stay as they are, and what the asker does with an answer changes no other one.
    before = copied(handed)
    told = asked(*handed)
    test.assertEqual(copied(handed), before)
    kept = copied(told)
    again = asked(*handed)
    test.assertEqual(again, kept)
    for spoiled in lists_in(again):
        spoiled.append(77)
        spoiled[0] = 78
        spoiled.reverse()
    test.assertEqual(told, kept)
    test.assertEqual(copied(handed), before)
    test.assertEqual(asked(*handed), kept)
    for changed in lists_in(handed):
        changed.append(79)
        changed[0] = 80
    test.assertEqual(told, kept)
    test.assertEqual(asked(*before), kept)


def copied(thing):
    if isinstance(thing, (list, tuple)):
        return type(thing)(copied(inner) for inner in thing)
    return thing


def lists_in(thing):
    found = [thing] if isinstance(thing, list) else []
    if isinstance(thing, (list, tuple)):
        for inner in thing:
            found.extend(lists_in(inner))
    return found
