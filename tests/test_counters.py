"""Points 2, 3, 4, 17 and 18: counterweights among blocks, a way or a bar."""

import itertools
import unittest

from evenhub.counters import counter
from evenhub.errors import NoFit, TooWide
from evenhub.loads import scaled
from evenhub.papers import is_even, paper
from samples import (
    GREAT, TOLD, assert_bar, assert_counts, assert_own_list, assert_refused, even_told, great_load, laid_told,
    primes_of, ring_told, rings_weigh_nought, small_load, some_numbers, some_rows, sparse_load, sum_told, taken_told,
)

MOST = 60


def blocks_of(n, count, kind, *words):
    return [kind(n, k, *words) for k in range(count)]


def even_load(n, *words, most=9):
    return laid_told(n, some_rows(n, 12, *words, most=most))


class Asked(unittest.TestCase):
    def ask(self, load, blocks):
        told = counter(load, blocks)
        self.assertIs(type(told), tuple)
        if told[0] == "way":
            self.assertEqual(len(told), 2)
            assert_counts(self, told[1], len(blocks))
            summed = sum_told(load, taken_told(blocks, told[1], len(load)))
            self.assertTrue(even_told(summed))
            self.assertTrue(is_even(summed))
        else:
            self.assertEqual(len(told), 3)
            assert_bar(self, told, blocks, load)
            self.assertTrue(rings_weigh_nought(told[1]))
        return told

    def assert_way(self, load, blocks):
        self.assertEqual(self.ask(load, blocks)[0], "way")

    def assert_barred(self, load, blocks):
        # Told back is the modulus.
        told = self.ask(load, blocks)
        self.assertEqual(told[0], "bar")
        return told[2]


class Few(Asked):
    def test_no_blocks(self):
        for n in range(1, MOST + 1):
            self.assertEqual(self.ask([0] * n, []), ("way", []))
            self.assertEqual(self.ask(even_load(n, "no blocks"), []), ("way", []))
            for weight in (1, -7, GREAT):
                self.assert_barred([0] * (n - 1) + [weight], [])

    def test_wheel_of_one_hole(self):
        for load, blocks, word in (
            ([0], [[5]], "way"), ([5], [[5]], "way"), ([5], [[-5]], "way"), ([5], [[2]], "bar"),
            ([1], [[6], [9]], "bar"), ([3], [[6], [9]], "way"), ([1], [[6], [10], [15]], "way"),
            ([GREAT], [[1]], "way"), ([1], [[0]], "bar"),
        ):
            self.assertEqual(self.ask(load, blocks)[0], word, (load, blocks))

    def test_written_ones(self):
        for load, blocks, word in (
            ([1, 0], [[0, 1]], "way"), ([1, 0], [[1, 0]], "way"), ([1, 0], [[1, 1]], "bar"), ([1, 0], [[2, 0]], "bar"),
            ([2, 0], [[5, 1]], "bar"), ([2, 0], [[3, 1]], "way"), ([2, 1, 0], [[1, 0, 0], [0, 1, 0]], "way"),
            ([2, 1, 0], [[1, 0, 0]], "bar"), ([2, 2, 0], [[0, 0, 1]], "way"),
            ([1, 0, 0], [[0, 1, 0], [0, 0, 1]], "way"),
        ):
            self.assertEqual(self.ask(load, blocks)[0], word, (load, blocks))

    def test_blocks_that_are_even_themselves(self):
        for n in range(2, MOST + 1):
            blocks = [ring_told(n, p, s) for p in primes_of(n) for s in (0, 1)] + [[0] * n, even_load(n, "block")]
            self.assert_barred([1] + [0] * (n - 1), blocks)
            self.assert_way(even_load(n, "load"), blocks)

    def test_loads_that_need_none(self):
        for n in range(1, MOST + 1):
            self.assert_way(even_load(n, "needs none"), blocks_of(n, 3, small_load))
            self.assert_way([0] * n, blocks_of(n, 2, great_load))

    def test_one_weight_countered_from_other_holes(self):
        for n in (2, 3, 5, 7, 11, 13, 59):
            load = [1] + [0] * (n - 1)
            blocks = [[1 if k == hole else 0 for k in range(n)] for hole in range(1, n)][:40]
            if len(blocks) == n - 1:
                self.assert_way(load, blocks)
            if n > 2:
                self.assert_barred(load, blocks[1:])

    def test_every_small_load_with_two_blocks(self):
        for n, weights in ((2, (-1, 0, 2)), (3, (-1, 0, 2)), (4, (0, 2))):
            for load in itertools.product((0, 1), repeat=n):
                for one, other in itertools.product(itertools.product(weights, repeat=n), repeat=2):
                    self.ask(list(load), [list(one), list(other)])


class Many(Asked):
    def test_every_wheel(self):
        words = {"way": 0, "nought": 0, "from two on": 0}
        for n in range(1, MOST + 1):
            for count in (1, 4, 20, 40):
                for kind in (small_load, sparse_load):
                    blocks = blocks_of(n, count, kind, "every")
                    told = self.ask(small_load(n, "load"), blocks)
                    words["way" if told[0] == "way" else "from two on" if told[2] else "nought"] += 1
                    told = self.ask(small_load(n, "load"), [scaled(block, 2) for block in blocks])
                    words["way" if told[0] == "way" else "from two on" if told[2] else "nought"] += 1
        for times in words.values():
            self.assertGreater(times, 20)

    def test_sums_of_blocks_and_rings_taken_back(self):
        for n in range(1, MOST + 1):
            for count in (1, 5, 12):
                blocks = blocks_of(n, count, small_load, "sums")
                taken = taken_told(blocks, some_numbers(count, 9, n), n)
                self.assert_way(sum_told(taken, even_load(n, "sums")), blocks)

    def test_blocks_that_would_have_to_be_divided(self):
        for n in (1, 2, 3, 4, 6, 12, 15, 30, 42, 59, 60):
            block = [1] + [0] * (n - 1)
            for by in (2, 3, 12, 1000000007, GREAT):
                self.assert_way(scaled(block, -3 * by), [scaled(block, by)])
                modulus = self.assert_barred(sum_told(block, even_load(n)), [scaled(block, by), [0] * n])
                self.assertGreaterEqual(modulus, 2)

    def test_loads_that_can_not_be_countered(self):
        for n in (5, 7, 12, 15, 30, 59, 60):
            blocks = [[1] + [0] * (n - 1)]
            self.assert_barred([0, 1] + [0] * (n - 2), blocks)
            blocks = [sum_told(scaled(blocks[0], many), even_load(n, many)) for many in (3, 5, GREAT)]
            self.assert_barred([0, 1] + [0] * (n - 2), blocks)
            self.assert_way([7] + [0] * (n - 1), blocks)

    def test_weights_of_three_hundred_figures(self):
        for n in (1, 2, 6, 12, 15, 30, 60):
            for count in (1, 6, 20):
                blocks = blocks_of(n, count, great_load, "great")
                self.ask(great_load(n, "load"), blocks)
                taken = taken_told(blocks, some_numbers(count, GREAT, n), n)
                self.assert_way(sum_told(taken, even_load(n, "great", most=GREAT)), blocks)

    def test_forty_blocks_of_three_hundred_figures(self):
        n = 59
        blocks = blocks_of(n, 40, great_load, "forty")
        self.assert_way(sum_told(taken_told(blocks, some_numbers(40, GREAT), n), even_load(n)), blocks)
        self.assertEqual(self.assert_barred(great_load(n, "forty"), blocks), 0)

    def test_weights_of_more_figures_than_python_makes_a_text_of(self):
        for n in (1, 2, 6):
            blocks = [[TOLD + hole for hole in range(n)], [TOLD - hole * hole for hole in range(n)]]
            self.assert_way(scaled(blocks[0], TOLD), blocks)
            self.ask([TOLD * (hole + 1) + 1 for hole in range(n)], blocks)

    def test_what_was_told_may_be_handed_in_again(self):
        n = 12
        blocks = blocks_of(n, 3, great_load)
        weights = self.ask(great_load(n, "load"), blocks)[1]
        self.ask(great_load(n, "load"), blocks + [weights])
        self.assert_way(weights, [weights])

    def test_a_bar_without_blocks_and_a_paper_tell_the_same(self):
        for n in range(1, MOST + 1):
            for load in (small_load(n), sparse_load(n), even_load(n)):
                self.assertEqual(self.ask(load, [])[0] == "way", paper(load)[0] == "even")


class Refused(Asked):
    def test_blocks_of_other_wheels(self):
        for n, other in ((1, 2), (2, 1), (6, 12), (12, 6), (59, 60), (60, 59), (60, 61), (7, 420)):
            for load in ([0] * n, small_load(n)):
                own, alien = small_load(n, "own"), small_load(other, "alien")
                for blocks in ([alien], [own, alien], [alien, own], [own, alien, own], [[0] * other], [alien] * 3):
                    assert_refused(self, NoFit, counter, load, blocks)

    def test_wheels_of_more_than_sixty_holes(self):
        for n in (61, 62, 64, 100, 210, 420, 450):
            for load in ([0] * n, small_load(n)):
                for blocks in ([], [small_load(n, "own")], [[0] * n, [1] * n]):
                    assert_refused(self, TooWide, counter, load, blocks)

    def test_an_unfit_block_goes_first(self):
        for n, other in ((61, 60), (61, 62), (420, 1), (64, 420), (420, 210)):
            own, alien = small_load(n, "own"), small_load(other, "alien")
            for blocks in ([alien], [own, alien], [alien, own]):
                assert_refused(self, NoFit, counter, small_load(n), blocks)

    def test_sixty_holes_are_not_refused(self):
        self.assert_way(small_load(60), [scaled(small_load(60), -1)])
        self.assert_barred([1] + [0] * 59, [])


class ListsAreTheAskersOwn(unittest.TestCase):
    def test_of_a_way_and_of_each_bar(self):
        for n in (1, 2, 6, 12, 30, 60):
            load = [1] + [0] * (n - 1)
            for blocks in ([], [[0] * n], [[2] + [0] * (n - 1)], [[-1] + [0] * (n - 1)], blocks_of(n, 3, small_load)):
                assert_own_list(self, counter, list(load), blocks)
            assert_own_list(self, counter, [0] * n, [])

    def test_the_same_for_the_same(self):
        for n in (6, 15, 30):
            for count in (3, 20):
                load, blocks = great_load(n), blocks_of(n, count, great_load)
                told = counter(load, blocks)
                counter(small_load(5), [])
                self.assertEqual(counter(list(load), [list(block) for block in blocks]), told)


class SomewhatBeyondTheBound(Asked):
    def test_nothing_is_refused_for_it(self):
        for n in (1, 12, 60):
            blocks = blocks_of(n, 45, small_load)
            self.ask(small_load(n), blocks)
            self.assert_way(taken_told(blocks, some_numbers(45, 9), n), blocks)


if __name__ == "__main__":
    unittest.main()
