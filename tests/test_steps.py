"""Points 2, 3 and 17: the reach of a goal by steps, a way or a bar."""

import itertools
import unittest

from evenhub.loads import scaled
from evenhub.steps import reach
from samples import (
    GREAT, TOLD, assert_bar, assert_counts, assert_own_list, chance, some_numbers, some_steps, sum_told, taken_told,
)

# The next one behind each of some round numbers, great ones among them: numbers that a search may lean on.
PRIMES = (
    2, 3, 5, 7, 101, 10007, 65537, 1000003, 998244353, 1000000007, 1000000009, 1000000021, 1000000033, 2147483647,
    4294967311, 2305843009213693951, 18446744073709551557,
)


def unit(size, place, number):
    return [number if k == place else 0 for k in range(size)]


class Asked(unittest.TestCase):
    def ask(self, steps, goal):
        told = reach(steps, goal)
        self.assertIs(type(told), tuple)
        if told[0] == "way":
            self.assertEqual(len(told), 2)
            assert_counts(self, told[1], len(steps))
            self.assertTrue(taken_told(steps, told[1], len(goal)) == goal)
        else:
            self.assertEqual(len(told), 3)
            assert_bar(self, told, steps, goal)
        return told

    def assert_way(self, steps, goal):
        self.assertEqual(self.ask(steps, goal)[0], "way")

    def assert_far(self, steps, goal):
        # No fractions of the steps come to the goal, so only modulus 0 or one made for the goal can bar it.
        self.assertEqual(self.ask(steps, goal)[0], "bar")

    def assert_near(self, steps, goal):
        # Fractions of the steps come to the goal, so modulus 0 can't bar it.
        told = self.ask(steps, goal)
        self.assertEqual(told[0], "bar")
        self.assertGreaterEqual(told[2], 2)


class Few(Asked):
    def test_no_steps(self):
        for size in (1, 2, 7, 60):
            self.assertEqual(self.ask([], [0] * size), ("way", []))
            for place in (0, size // 2, size - 1):
                for number in (1, -1, 2, GREAT, -TOLD):
                    self.assert_far([], unit(size, place, number))

    def test_one_step(self):
        for step in ([1], [-1], [2], [GREAT], [3, -5], [0, 4, 0], some_numbers(60, GREAT)):
            for many in (0, 1, -1, 7, GREAT, -TOLD):
                told = self.ask([step], scaled(step, many))
                self.assertTrue(told == ("way", [many]))

    def test_one_step_that_does_not_come_to_the_goal(self):
        for step, goal in (([2], [1]), ([6], [9]), ([-4, 8], [2, -4]), ([GREAT], [1]), ([3 * GREAT], [GREAT])):
            self.assert_near([step], goal)
        for step, goal in (([2, 0], [2, 1]), ([1, 1], [1, 2]), ([0, 3], [3, 0]), ([GREAT, 1], [GREAT, 2])):
            self.assert_far([step], goal)

    def test_steps_of_nought_alone(self):
        for count, size in ((1, 1), (3, 1), (1, 4), (40, 60)):
            steps = [[0] * size for k in range(count)]
            self.assert_way(steps, [0] * size)
            for place in (0, size - 1):
                self.assert_far(steps, unit(size, place, 5))
                self.assert_far(steps, unit(size, place, -GREAT))

    def test_the_goal_of_nought_alone(self):
        for count, size, most in ((1, 1, 9), (3, 2, 9), (2, 5, GREAT), (40, 60, 9), (40, 3, GREAT)):
            self.assert_way(some_steps(count, size, most), [0] * size)

    def test_whole_numbers_one_by_one(self):
        for numbers in ((3, 5), (6, 10, 15), (4, 6), (-4, 6, 0), (35, 77, 55), (0, 0, 9), (12,), (1,), (-1, 0)):
            steps = [[number] for number in numbers]
            common = max(d for d in range(1, 100) if all(number % d == 0 for number in numbers))
            for goal in range(-30, 31):
                if goal % common == 0:
                    self.assert_way(steps, [goal])
                else:
                    self.assert_near(steps, [goal])

    def test_every_small_pair_of_steps(self):
        for one, other in itertools.product(itertools.product((-2, 0, 1, 3), repeat=2), repeat=2):
            steps = [list(one), list(other)]
            reached = {
                tuple(taken_told(steps, counts, 2)) for counts in itertools.product(range(-12, 13), repeat=2)
            }
            for goal in itertools.product((-1, 0, 2), repeat=2):
                told = self.ask(steps, list(goal))
                # The counts of two steps that come to so small a goal are small, or can be made so.
                self.assertEqual(told[0] == "way", goal in reached, (steps, goal))


class Sums(Asked):
    def test_goals_that_are_sums_of_the_steps(self):
        for count, size in ((1, 3), (2, 2), (3, 5), (5, 3), (7, 7), (12, 4), (4, 12), (20, 20), (40, 9), (9, 60)):
            for most in (1, 9, 10 ** 9, GREAT):
                steps = some_steps(count, size, most, "sums")
                for farthest in (1, 9, GREAT):
                    goal = taken_told(steps, some_numbers(count, farthest, size, "counts"), size)
                    self.assert_way(steps, goal)

    def test_steps_that_are_each_divided(self):
        for count, size in ((1, 3), (2, 2), (3, 5), (5, 3), (7, 7), (12, 4), (4, 12), (40, 9), (9, 60)):
            for by in (2, 3, 12, 1000000007, GREAT):
                steps = some_steps(count, size, 99, "divided")
                goal = taken_told(steps, [1] + some_numbers(count - 1, 9, size, "counts"), size)
                told = self.ask([scaled(step, by) for step in steps], goal)
                self.assertEqual(told[0] == "way", all(number % by == 0 for number in goal) and self.ask(
                    steps, [number // by for number in goal])[0] == "way")
                if told[0] == "bar":
                    self.assertGreaterEqual(told[2], 2)

    def test_only_when_a_step_is_divided(self):
        for count, size in ((1, 1), (2, 2), (3, 5), (6, 6), (4, 12), (9, 60), (20, 30)):
            for most in (9, GREAT):
                steps = some_steps(count, size, most, "independent")
                goal = taken_told(steps, some_numbers(count - 1, 9, size, "counts") + [1], size)
                self.assert_way(steps, goal)
                for by in (2, 5, 1000000007, -GREAT):
                    self.assert_near(steps[:-1] + [scaled(steps[-1], by)], goal)

    def test_goals_that_lie_apart_from_all_steps(self):
        for count, size in ((1, 2), (2, 3), (4, 9), (12, 20), (39, 60), (40, 41)):
            for most in (9, GREAT if count < 20 else 10 ** 30):
                steps = some_steps(count, size, most, "apart")
                goal = taken_told(steps, some_numbers(count, 9, size, "counts"), size)
                for place in (0, size // 2, size - 1):
                    told = self.ask(steps, sum_told(goal, unit(size, place, 1)))
                    self.assertEqual(told[0], "bar")
        for count, size in ((1, 2), (3, 4), (12, 20), (19, 60)):
            steps = [step + [sum(step)] for step in some_steps(count, size - 1, GREAT, "hung")]
            goal = some_numbers(size - 1, GREAT, "goal")
            self.assert_far(steps, goal + [sum(goal) + 1])

    def test_steps_that_hang_on_one_another(self):
        for count, size, rank in ((2, 1, 1), (3, 3, 1), (5, 4, 2), (9, 6, 5), (40, 60, 3), (40, 30, 29), (30, 60, 20)):
            for most in (9, 10 ** 40):
                base = some_steps(rank, size, most, "base")
                steps = [taken_told(base, counts, size) for counts in some_steps(count, rank, 5, "hang")]
                self.assert_way(steps, taken_told(steps, some_numbers(count, 99, "counts"), size))
                for counts in some_steps(3, rank, 2, "goals"):
                    self.ask(steps, taken_told(base, counts, size))
                self.ask(steps, some_numbers(size, most, "any"))

    def test_the_same_step_again_and_taken_back(self):
        step = [4, -6, 10]
        for steps in ([step, step], [step, scaled(step, -1)], [step] * 40, [step, [0, 0, 0], step]):
            self.assert_way(steps, [8, -12, 20])
            self.assert_near(steps, [2, -3, 5])
            self.assert_far(steps, [4, -6, 9])
        self.assert_way([step, scaled(step, 3), [6, -9, 15]], [2, -3, 5])

    def test_divisors_that_only_all_steps_together_bring_to_one(self):
        primes = [p for p in range(2, 180) if all(p % d for d in range(2, p))][:40]
        product = 1
        for p in primes:
            product *= p
        numbers = [product // p for p in primes]
        self.assert_way([[number] for number in numbers], [1])
        self.assert_near([[number] for number in numbers[:-1]], [1])
        self.assert_near([[6 * number, 6 * number] for number in numbers], [2, 2])
        self.assert_far([[number, number] for number in numbers], [1, 2])
        self.assert_way([[number] * 60 for number in numbers], [1] * 60)

    def test_primes_by_which_steps_hang_on_one_another(self):
        for p in PRIMES:
            self.assert_way([[p, 0], [0, p]], [3 * p, -p])
            self.assert_near([[p, 0], [0, p]], [3 * p, 1])
            self.assert_way([[1, p], [1, 2 * p]], [5, 8 * p])
            self.assert_near([[1, p], [1, 2 * p]], [5, 8 * p + 1])
            self.assert_way([[1, 1], [1, 1 + p]], [0, p])
            self.assert_near([[1, 1], [1, 1 + p]], [0, 1])
            self.assert_far([[p, p, 0], [p, 0, p]], [p, p, p])
            self.assert_way([[p, 0, 0], [0, 1, 0], [p, 1, p]], [0, 0, p])
            self.assert_way([[1], [p]], [7])
        product = 1
        for p in PRIMES:
            product *= p
        self.assert_way([[product, 0], [0, product], [1, 0]], [7, product])
        self.assert_near([[product, 0], [0, product], [1, 0]], [7, product + 1])
        self.assert_far([[product, 0, 1], [0, product, 1]], [product, product, 1])


class Many(Asked):
    def test_any_steps_and_any_goal(self):
        moduli = {"way": 0, "nought": 0, "from two on": 0}
        for number in range(600):
            source = chance("any", number)
            count, size = source.randint(0, 7), source.randint(1, 6)
            most = source.choice((1, 2, 9, 100, 10 ** 20))
            steps = [[source.randint(-most, most) for k in range(size)] for step in range(count)]
            goal = [source.randint(-most, most) for k in range(size)]
            told = self.ask(steps, goal)
            moduli["way" if told[0] == "way" else "from two on" if told[2] else "nought"] += 1
        for times in moduli.values():
            self.assertGreater(times, 30)

    def test_forty_steps_and_sixty_numbers(self):
        for most in (1, 9, 10 ** 6):
            steps = some_steps(40, 60, most)
            self.assert_far(steps, some_numbers(60, most, "goal"))
            self.assert_way(steps, taken_told(steps, some_numbers(40, most, "counts"), 60))
            doubled = [scaled(step, 2) for step in steps]
            self.assert_near(doubled, taken_told(steps, [1] * 40, 60))

    def test_forty_steps_and_fewer_numbers(self):
        for size in (1, 2, 5, 13, 20, 30, 37, 39, 40):
            for most in (1, 9):
                steps = some_steps(40, size, most)
                self.ask(steps, some_numbers(size, most, "goal"))
                self.assert_way(steps, taken_told(steps, some_numbers(40, most, "counts"), size))
                self.assert_near([scaled(step, 3) for step in steps], [1] + [0] * (size - 1))

    def test_forty_steps_of_sixty_numbers_of_three_hundred_figures(self):
        steps = some_steps(40, 60, GREAT)
        self.assert_far(steps, some_numbers(60, GREAT, "goal"))
        counts = some_numbers(40, GREAT, "counts")
        self.assert_way(steps, taken_told(steps, counts, 60))
        self.assert_near([scaled(step, 2) for step in steps], taken_told(steps, [1] + counts[1:], 60))

    def test_forty_steps_of_numbers_of_three_hundred_figures(self):
        for size in (1, 7, 20):
            steps = some_steps(40, size, GREAT)
            goal = some_numbers(size, GREAT, "goal")
            self.assert_way(steps, taken_told(steps, some_numbers(40, GREAT, "counts"), size))
            # So many chance steps come to everything, if not all of them share a divisor.
            self.assert_way(steps, goal)
            self.assert_near([scaled(step, 6) for step in steps], scaled([1] + [2] * (size - 1), 3))

    def test_numbers_of_more_figures_than_python_makes_a_text_of(self):
        for count, size in ((1, 1), (2, 2), (3, 2), (2, 3)):
            steps = [[TOLD * number + 1 for number in step] for step in some_steps(count, size, 9)]
            self.assert_way(steps, taken_told(steps, [TOLD + k for k in range(count)], size))
            self.assertEqual(self.ask([scaled(step, TOLD) for step in steps], [TOLD + 1] * size)[0], "bar")

    def test_what_was_told_may_be_handed_in_again(self):
        steps = some_steps(6, 8, GREAT)
        word, weights, modulus = self.ask(steps, some_numbers(8, GREAT, "goal"))
        self.assert_way([weights], scaled(weights, -3))
        self.ask(steps + [weights], some_numbers(8, GREAT, "goal"))
        steps = some_steps(7, 5, GREAT)
        counts = self.ask(steps, some_numbers(5, GREAT, "goal"))[1]
        self.assert_way([counts, [1] * 7], sum_told(scaled(counts, 5), [1] * 7))


class ListsAreTheAskersOwn(unittest.TestCase):
    def test_of_a_way_and_of_each_bar(self):
        for steps, goal in (
            ([[3], [5]], [1]), ([], [0, 0]), ([], [0, 1]), ([[2, 4]], [1, 2]), ([[2, 4]], [2, 5]), ([[1, 2]], [0, 0]),
            (some_steps(5, 3, 9), [1, 2, 3]), (some_steps(3, 5, GREAT), some_numbers(5, GREAT)), ([[0, 0]], [0, 0]),
        ):
            assert_own_list(self, reach, steps, goal)

    def test_the_same_for_the_same(self):
        for count, size in ((3, 5), (5, 3), (12, 4)):
            steps, goal = some_steps(count, size, GREAT), some_numbers(size, GREAT)
            told = reach(steps, goal)
            reach(some_steps(2, 2, 5), [1, 1])
            self.assertEqual(reach([list(step) for step in steps], list(goal)), told)


class SomewhatBeyondTheBound(Asked):
    def test_nothing_is_refused_for_it(self):
        for count, size in ((45, 65), (45, 10), (3, 65), (45, 1)):
            steps = some_steps(count, size, 9)
            self.ask(steps, some_numbers(size, 9))
            self.assert_way(steps, taken_told(steps, some_numbers(count, 9, "counts"), size))


if __name__ == "__main__":
    unittest.main()
