"""Points 2, 3, 4, 5, 15 and 16: loads weighed, the weighings of kept holes, papers and whether they hold."""

import itertools
import unittest

from evenhub.errors import NoFit, NoHole
from evenhub.loads import scaled
from evenhub.papers import holds, is_even, paper, weighed, weighing
from evenhub.rests import is_kept, kept, rest
from evenhub.rings import laid
from samples import (
    FEW_WHEELS, GREAT, TOLD, WHEELS, assert_load, assert_own_list, assert_refused, assert_rows, chance, even_told,
    great_load, laid_told, loads_of, parts_told, primes_of, ring_told, rings_weigh_nought, shares_by_hole, small_load,
    some_rows, sum_told, weighed_told,
)

MOST = 420


def weighing_told(n, hole):
    # Point 15's product, part by part.
    by_hole = shares_by_hole(n)
    told = []
    for k in range(n):
        product = 1
        for (p, q), c, d in zip(parts_told(n), by_hole[hole % n][0], by_hole[k][0]):
            if c % (q // p) != d % (q // p):
                product *= 0
            elif c // (q // p) == d // (q // p):
                product *= 1
            elif d // (q // p) == p - 1:
                product *= -1
            else:
                product *= 0
        told.append(product)
    return told


def even_loads(n):
    return [
        laid_told(n, rows) for rows in (
            [], some_rows(n, 1, "one"), some_rows(n, 3, "three"), some_rows(n, 40, "many"),
            some_rows(n, 40, "great", most=GREAT), [(p, s, 1) for p in primes_of(n) for s in range(n)],
            some_rows(n, 9, "twice") * 2,
        )
    ]


def changed_loads(n):
    # On a wheel of at least one prime no single weight is even, so these aren't.
    found = []
    for number, load in enumerate(even_loads(n)):
        source = chance(n, number, "changed")
        for by in (1, -1, source.randint(2, 9), -GREAT):
            changed = list(load)
            changed[source.randrange(n)] += by
            found.append(changed)
    return found


class Weighed(unittest.TestCase):
    def test_written_ones(self):
        for load, weights, told in (
            ([5], [3], 15), ([5], [0], 0), ([0], [-7], 0), ([1, 2, 3], [10, 0, -1], 7), ([1, 1], [1, -1], 0),
            ([-2, 3, 0, 1], [-5, -6, 9, 100], 92),
        ):
            self.assertEqual(weighed(load, weights), told)

    def test_against_the_sum_hole_by_hole(self):
        for n in WHEELS:
            for load in loads_of(n, "load"):
                for weights in loads_of(n, "weights"):
                    told = weighed(load, weights)
                    self.assertIs(type(told), int)
                    self.assertEqual(told, weighed_told(load, weights))

    def test_numbers_of_more_figures_than_python_makes_a_text_of(self):
        for n in (1, 2, 12):
            load = [(-1) ** hole * (TOLD + hole) for hole in range(n)]
            weights = [TOLD * hole - 3 for hole in range(n)]
            self.assertTrue(weighed(load, weights) == weighed_told(load, weights))

    def test_wheel_of_one_hole(self):
        for weight, number in itertools.product((0, 1, -1, GREAT, -GREAT), repeat=2):
            self.assertEqual(weighed([weight], [number]), weight * number)

    def test_lists_of_unlike_lengths(self):
        for many, other in ((1, 2), (2, 3), (1, 420), (6, 12), (419, 420)):
            for one, two in ((small_load(many), small_load(other)), ([0] * many, [0] * other)):
                assert_refused(self, NoFit, weighed, one, two)
                assert_refused(self, NoFit, weighed, two, one)


class Weighing(unittest.TestCase):
    def test_written_ones(self):
        for n, hole, told in (
            (1, 0, [1]), (2, 0, [1, -1]), (3, 0, [1, 0, -1]), (3, 1, [0, 1, -1]), (4, 1, [0, 1, 0, -1]),
            (6, 0, [1, 1, 0, -1, -1, 0]), (6, 2, [0, 1, 1, 0, -1, -1]), (9, 4, [0, 0, 0, 0, 1, 0, 0, -1, 0]),
        ):
            self.assertEqual(weighing(n, hole), told)

    def test_every_kept_hole_against_the_product(self):
        for n in WHEELS:
            for hole in kept(n):
                told = weighing(n, hole)
                assert_load(self, told, n)
                self.assertEqual(told, weighing_told(n, hole), (n, hole))

    def test_each_even_ring_weighs_nought(self):
        for n in range(1, MOST + 1):
            for hole in kept(n) if n in WHEELS else kept(n)[::7]:
                self.assertTrue(rings_weigh_nought(weighing(n, hole)), (n, hole))

    def test_written_rings_weigh_nought(self):
        for n in range(1, 43):
            for p in primes_of(n):
                for s in range(n // p):
                    for hole in kept(n):
                        self.assertEqual(weighed(ring_told(n, p, s), weighing(n, hole)), 0, (n, p, s, hole))

    def test_a_load_weighs_what_its_rest_has_in_the_hole(self):
        for n in WHEELS:
            for load in (small_load(n), great_load(n)):
                left = rest(load)[0]
                for hole in kept(n):
                    self.assertEqual(weighed(load, weighing(n, hole)), left[hole], (n, hole))

    def test_holes_that_lie_farther(self):
        for n in WHEELS:
            for hole in (kept(n)[0], kept(n)[-1]):
                told = weighing(n, hole)
                for far in (1, -1, 5, GREAT, -GREAT, TOLD):
                    self.assertEqual(weighing(n, hole + n * far), told)

    def test_wheel_of_one_hole(self):
        for hole in (0, 1, -1, 7, GREAT, -TOLD):
            self.assertEqual(weighing(1, hole), [1])

    def test_every_hole_that_is_not_kept_is_refused(self):
        for n in WHEELS:
            for hole in range(n):
                if not is_kept(n, hole):
                    assert_refused(self, NoHole, weighing, n, hole)

    def test_holes_that_are_not_kept_and_lie_farther_are_refused(self):
        for n, hole in ((2, 1), (6, 1), (12, 11), (30, 29), (420, 419), (97, 96)):
            for far in (1, -1, -3, GREAT, -GREAT, TOLD):
                assert_refused(self, NoHole, weighing, n, hole + n * far)


class Papers(unittest.TestCase):
    def assert_even(self, load):
        n = len(load)
        told = paper(load)
        self.assertIs(type(told), tuple)
        kind, rows = told
        self.assertEqual(kind, "even")
        assert_rows(self, n, rows)
        self.assertTrue(laid_told(n, rows) == load)
        self.assertTrue(laid(n, rows) == load)
        self.assertIs(is_even(load), True)
        self.assertIs(holds(load, told), True)

    def assert_uneven(self, load):
        n = len(load)
        told = paper(load)
        self.assertIs(type(told), tuple)
        kind, weights = told
        self.assertEqual(kind, "uneven")
        assert_load(self, weights, n)
        self.assertTrue(rings_weigh_nought(weights))
        self.assertNotEqual(weighed_told(load, weights), 0)
        self.assertIs(is_even(load), False)
        self.assertIs(holds(load, told), True)

    def test_loads_made_of_rings(self):
        for n in WHEELS:
            for load in even_loads(n):
                self.assert_even(load)

    def test_loads_made_of_rings_with_one_hole_changed(self):
        for n in WHEELS:
            for load in changed_loads(n):
                self.assert_uneven(load)

    def test_every_wheel(self):
        for n in range(1, MOST + 1):
            load = laid_told(n, some_rows(n, 5, "every"))
            self.assert_even(load)
            load[n // 2] += 3
            self.assert_uneven(load)

    def test_one_ring_and_all_but_one_weight_of_it(self):
        for n in range(2, 61):
            for p in primes_of(n):
                for s in range(n // p):
                    self.assert_even(ring_told(n, p, s))
                    self.assert_uneven([0 if hole == s else weight for hole, weight in enumerate(ring_told(n, p, s))])

    def test_wheel_of_one_hole(self):
        self.assert_even([0])
        for weight in (1, -1, 7, GREAT, -GREAT):
            self.assert_uneven([weight])

    def test_every_small_load(self):
        for n in range(1, 9):
            for load in itertools.product((-1, 0, 1), repeat=n):
                if even_told(load):
                    self.assert_even(list(load))
                else:
                    self.assert_uneven(list(load))

    def test_loads_of_many_kinds(self):
        for n in WHEELS:
            for load in loads_of(n):
                self.assertIs(is_even(load), even_told(load))
                self.assertEqual(paper(load)[0], "even" if even_told(load) else "uneven")

    def test_evenness_that_three_primes_alone_can_bring(self):
        # Six weights on thirty holes that are even though no whole ring of ones lies among them.
        load = [1 if hole in (5, 25, 6, 12, 18, 24) else 0 for hole in range(30)]
        self.assertTrue(even_told(load))
        self.assert_even(load)

    def test_a_multiple_of_an_uneven_load_is_uneven(self):
        for n in FEW_WHEELS:
            for many in (2, 6, 420, -GREAT):
                self.assert_uneven(scaled([1] + [0] * (n - 1), many))

    def test_weights_of_more_figures_than_python_makes_a_text_of(self):
        for n in (1, 2, 6, 12, 30):
            load = laid_told(n, [(p, s, TOLD + s) for p in primes_of(n) for s in range(n)])
            self.assert_even(load)
            load[-1] -= TOLD
            self.assert_uneven(load)


class Holds(unittest.TestCase):
    def assert_never_both(self, load, papers):
        kinds = {told[0] for told in papers if holds(load, told)}
        self.assertLessEqual(len(kinds), 1)
        self.assertLessEqual(kinds, {"even"} if even_told(load) else {"uneven"})

    def test_written_ones(self):
        for load, told, outcome in (
            ([0], ("even", []), True), ([5], ("even", []), False), ([5], ("uneven", [1]), True),
            ([5], ("uneven", [0]), False), ([0], ("uneven", [1]), False), ([5], ("uneven", []), False),
            ([1, 1], ("even", [(2, 0, 1)]), True), ([1, 1], ("even", [(2, 7, 1)]), True),
            ([1, 1], ("even", [(2, 0, 3), (2, 1, -2)]), True), ([1, 1], ("even", [(2, 0, 2), (2, 0, -1)]), True),
            ([1, 1], ("even", []), False), ([1, 1], ("even", [(2, 0, 2)]), False),
            ([1, 0], ("uneven", [1, -1]), True), ([1, 0], ("uneven", [1, 1]), False),
            ([1, 1], ("uneven", [1, -1]), False), ([1, 0], ("uneven", [0, 0]), False),
            ([0, 0, 0], ("even", []), True), ([0, 0, 0], ("even", [(3, 0, 0)]), True),
            ([0, 0, 0], ("even", [(2, 0, 0)]), False),
        ):
            given = holds(load, told)
            self.assertIs(type(given), bool)
            self.assertIs(given, outcome, (load, told))

    def test_rows_that_are_the_load_however_they_are_told(self):
        for n in WHEELS:
            for count, most in ((0, 1), (1, 9), (25, 9), (25, GREAT)):
                rows = some_rows(n, count, "held", most=most)
                load = laid_told(n, rows)
                self.assertIs(holds(load, ("even", rows)), True)
                self.assertIs(holds(load, ("even", rows[::-1])), True)
                for p in primes_of(n):
                    with_none = rows + [(p, -GREAT, 0), (p, 5 * n + 1, 0)]
                    self.assertIs(holds(load, ("even", with_none)), True)
                    back_and_forth = rows + [(p, TOLD, 3), (p, TOLD % n - n, -3)]
                    self.assertIs(holds(load, ("even", back_and_forth)), True)

    def test_rows_that_are_another_load(self):
        for n in WHEELS:
            rows = some_rows(n, 9, "other")
            load = laid_told(n, rows)
            for p in primes_of(n):
                self.assertIs(holds(load, ("even", rows + [(p, 1, 1)])), False)
            for hole in (0, n // 2, n - 1):
                for by in (1, -1, GREAT):
                    changed = [weight + by * (k == hole) for k, weight in enumerate(load)]
                    self.assertIs(holds(changed, ("even", rows)), False)

    def test_rows_that_are_not_of_primes_of_the_wheel(self):
        for n in WHEELS:
            load = [0] * n
            for p in (0, 1, -1, -2, 4, 6, n * n, -n, 11 if n % 11 else 13, GREAT, TOLD):
                if p not in primes_of(n):
                    for many in (0, 1, -GREAT):
                        self.assertIs(holds(load, ("even", [(p, 0, many)])), False, (n, p, many))
                    self.assertIs(holds(load, ("even", [(p, 0, 1), (p, 0, -1)])), False, (n, p))
                    rows = some_rows(n, 4, "more")
                    self.assertIs(holds(laid_told(n, rows), ("even", rows + [(p, 0, 0)])), False, (n, p))

    def test_whole_wheels_laid_as_rows_are_not_held(self):
        # All holes are a sum of rings, but the wheel's own number need not be a prime.
        for n in (4, 6, 9, 12, 420):
            self.assertIs(holds([1] * n, ("even", [(n, 0, 1)])), False)
            self.assertIs(holds([1] * n, ("even", [(1, s, 1) for s in range(n)])), False)

    def test_weights_of_a_wrong_length(self):
        for n in FEW_WHEELS:
            load = [1] + [0] * (n - 1)
            weights = weighing(n, 0)
            self.assertIs(holds(load, ("uneven", weights)), True)
            for wrong in ([], weights[:-1], weights + [0], weights + weights, weights[1:], [1], weights + [GREAT]):
                if len(wrong) != n:
                    self.assertIs(holds(load, ("uneven", wrong)), False, n)

    def test_weights_by_which_a_ring_does_not_weigh_nought(self):
        for n in WHEELS:
            for p in primes_of(n):
                for s in {0, n // p - 1, (n // p) // 2}:
                    # By these all rings of other primes, and but for one all of this prime, may weigh 0.
                    weights = weighing(n, 0)
                    weights[s] += 1
                    load = [1 if k == s else 0 for k in range(n)]
                    self.assertIs(holds(load, ("uneven", weights)), False, (n, p, s))
            if n > 1:
                self.assertIs(holds(small_load(n), ("uneven", [1] * n)), False)

    def test_weights_that_fail_one_prime_alone(self):
        for n in (6, 12, 30, 60, 210, 420):
            for p in primes_of(n):
                # Rings of each other prime have as many 1 as -1; those of p have the same weight in all holes.
                weights = [1] * n
                for other, q in parts_told(n):
                    if other != p:
                        factors = [(k % q == 0) - (k % q == q // other) for k in range(n)]
                        weights = [weight * factor for weight, factor in zip(weights, factors)]
                failing = [r for r in primes_of(n) if any(sum(weights[s::n // r]) for s in range(n // r))]
                self.assertEqual(failing, [p])
                load = [1 if weight == 1 else 0 for weight in weights]
                self.assertIs(holds(load, ("uneven", weights)), False, (n, p))

    def test_weights_by_which_the_load_weighs_nought(self):
        for n in WHEELS:
            for load in even_loads(n)[:4]:
                for hole in kept(n)[::5]:
                    self.assertIs(holds(load, ("uneven", weighing(n, hole))), False)
            self.assertIs(holds(small_load(n), ("uneven", [0] * n)), False)

    def test_other_weights_that_hold(self):
        for n in WHEELS:
            load = great_load(n)
            weights = [0] * n
            for hole in kept(n)[:9]:
                weights = sum_told(weights, scaled(weighing(n, hole), -GREAT + hole))
            self.assertIs(holds(load, ("uneven", weights)), weighed_told(load, weights) != 0)

    def test_never_both_kinds(self):
        for n in FEW_WHEELS:
            loads = even_loads(n)[:4] + changed_loads(n)[:6] + loads_of(n)
            papers = [paper(load) for load in loads] + [
                ("even", []), ("uneven", [0] * n), ("uneven", [1] * n), ("uneven", small_load(n)),
                ("even", some_rows(n, 3)), ("even", [(2, 0, 1)]), ("uneven", [1] + [0] * (n - 1)), ("uneven", []),
            ]
            for load in loads:
                self.assert_never_both(load, papers)

    def test_never_both_kinds_for_every_small_load(self):
        for n in range(1, 5):
            papers = [("uneven", list(weights)) for weights in itertools.product((-1, 0, 1), repeat=n)]
            papers += [("even", [(p, s, many)]) for p in (2, 3, 4) for s in range(n) for many in (-1, 0, 1)]
            papers += [("even", []), ("even", [(2, 0, 1), (2, 1, -1)])]
            for load in itertools.product((-1, 0, 1), repeat=n):
                self.assert_never_both(list(load), papers)

    def test_papers_of_numbers_with_more_figures_than_python_makes_a_text_of(self):
        for n in (2, 6, 30):
            rows = [(p, s + TOLD, TOLD + s) for p in primes_of(n) for s in range(n)]
            load = laid_told(n, rows)
            self.assertIs(holds(load, ("even", rows)), True)
            self.assertIs(holds(load, ("even", rows[1:])), False)
            weights = scaled(weighing(n, 0), TOLD)
            self.assertIs(holds([TOLD] + [0] * (n - 1), ("uneven", weights)), True)
            self.assertIs(holds(load, ("uneven", weights)), False)


class ListsAreTheAskersOwn(unittest.TestCase):
    def test_of_each_function(self):
        for n in (1, 2, 6, 12, 30, 420):
            assert_own_list(self, weighing, n, 0)
            assert_own_list(self, paper, [1] + [0] * (n - 1))
            assert_own_list(self, paper, [0] * n)
            assert_own_list(self, paper, laid_told(n, some_rows(n, 5)))
            assert_own_list(self, is_even, small_load(n))
            assert_own_list(self, weighed, small_load(n, 1), small_load(n, 2))
            for load in ([0] * n, [5] + [0] * (n - 1), laid_told(n, some_rows(n, 5))):
                assert_own_list(self, holds, load, paper(list(load)))
                assert_own_list(self, holds, load[:], ("even", some_rows(n, 5)))
                assert_own_list(self, holds, load[:], ("uneven", weighing(n, 0)))

    def test_the_same_paper_for_the_same_load(self):
        for n in WHEELS:
            for load in (great_load(n), laid_told(n, some_rows(n, 20, most=GREAT))):
                self.assertEqual(paper(load), paper(list(load)))


class SomewhatBeyondTheBound(unittest.TestCase):
    def test_nothing_is_refused_for_it(self):
        n = 450
        self.assertEqual(weighing(n, 0), weighing_told(n, 0))
        assert_refused(self, NoHole, weighing, n, 449)
        load = laid_told(n, some_rows(n, 30))
        self.assertIs(is_even(load), True)
        self.assertIs(holds(load, paper(load)), True)
        load[7] += 1
        self.assertIs(is_even(load), False)
        self.assertIs(holds(load, paper(load)), True)
        self.assertEqual(weighed([1] * n, list(range(n))), n * (n - 1) // 2)

    def test_more_rows_than_two_thousand(self):
        rows = some_rows(60, 2500)
        self.assertIs(holds(laid_told(60, rows), ("even", rows)), True)
        self.assertIs(holds([0] * 60, ("even", rows)), laid_told(60, rows) == [0] * 60)


if __name__ == "__main__":
    unittest.main()
