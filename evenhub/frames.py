"""Frames: some of the steps, which the others hang on, and what is made of them, told as tops over one bottom."""

from evenhub.loads import hung
from evenhub.papers import weighed
from evenhub.primes import back
from evenhub.wholes import euclid


# Tops and bottoms are sought by the rests they leave by ever higher powers of a prime. So no number on the way is much
# longer than those told, as it would be where steps are taken from one another until nothing is left.
class Frame:
    def __init__(self, steps, size, prime):
        self.size = size
        self.prime = prime
        self.found = corners(steps, prime)
        self.chosen = [number for number, column, row in self.found]
        self.columns = [column for number, column, row in self.found]
        self.rows = [picked(steps[number], self.columns) for number in self.chosen]
        self.modulus = prime ** 16
        self.undoing = undone_rows(self.rows, self.modulus)

    def missed(self, goal):
        # A column in which no sum of the chosen steps, whatever their counts, comes to what the goal has by the prime.
        return first_filled(cleared(goal, self.found, self.prime))

    def counts(self, goal):
        # How often each chosen step is taken, so that in the frame's columns they come to the goal.
        return solved(flipped(self.rows), flipped(self.undoing), self.modulus, picked(goal, self.columns))

    def weights(self, amounts):
        # Weights, 0 but in the frame's columns, by which the chosen steps weigh the amounts.
        told = solved(self.rows, self.undoing, self.modulus, amounts)
        return (spread(self.size, self.columns, told[0]), told[1])


def picked(things, places):
    return [things[place] for place in places]


def spread(size, places, numbers):
    outcome = [0] * size
    for place, number in zip(places, numbers):
        outcome[place] = number
    return outcome


def flipped(rows):
    return [column_of(rows, column) for column in range(len(rows))]


def column_of(rows, column):
    return [row[column] for row in rows]


def corners(steps, prime):
    # For each step that by the prime doesn't hang on those ahead of it: its number, a column of its own, and what is
    # left of it. A step may hang on others by the prime alone; then what comes of the frame may be wrong.
    found = []
    for number, step in enumerate(steps):
        left = cleared(step, found, prime)
        column = first_filled(left)
        if column is not None:
            found.append((number, column, taken_times(left, back(left[column], prime), prime)))
    return found


def cleared(step, found, prime):
    left = [weight % prime for weight in step]
    for number, column, row in found:
        left = lessened(left, left[column], row, prime)
    return left


def first_filled(row):
    for column, number in enumerate(row):
        if number != 0:
            return column
    return None


def lessened(row, many, other, modulus):
    if many == 0:
        return row
    return [(number - many * less) % modulus for number, less in zip(row, other)]


def taken_times(row, many, modulus):
    return [number * many % modulus for number in row]


def undone_rows(rows, modulus):
    # Each row clears its own column in all others. What it has there leads back, also by a power of the prime: the
    # steps were chosen so that each, less those ahead of it, has something in its column that the prime leaves.
    size = len(rows)
    left = [row + hung(size, number, 1) for number, row in enumerate(rows)]
    for column in range(size):
        lead = taken_times(left[column], back(left[column][column], modulus), modulus)
        left = [lessened(row, row[column], lead, modulus) for row in left]
        left[column] = lead
    return [row[size:] for row in left]


def solved(rows, undoing, modulus, goal):
    # By the tops each row weighs its number of the goal, times the bottom.
    rests = [0] * len(goal)
    told = (rests, 1)
    left = goal
    scale = 1
    many = 1
    while not is_solution(rows, goal, told):
        for count in range(many):
            more = [weighed(row, left) % modulus for row in undoing]
            left = [(number - weighed(row, more)) // modulus for row, number in zip(rows, left)]
            rests = [number + scale * beyond for number, beyond in zip(rests, more)]
            scale = scale * modulus
        told = fractions(rests, scale)
        # By leaps, since it takes longer to seek fractions than to go on with the rests.
        many = many + many // 2 + 1
    return told


def is_solution(rows, goal, told):
    if told is None:
        return False
    return all([weighed(row, told[0]) == told[1] * number for row, number in zip(rows, goal)])


def fractions(rests, scale):
    # Two fractions whose tops and bottoms are no longer than these bits never leave the same rest.
    bits = (scale.bit_length() - 2) // 2
    bottom = 1
    for number in rests:
        bottom = bottom * least_bottom(number * bottom % scale, scale, bits)
        if bottom.bit_length() > bits:
            return None
    return ([centred(number * bottom, scale) for number in rests], bottom)


def least_bottom(number, scale, bits):
    return abs(euclid(scale, number, bits)[3])


def centred(number, scale):
    rest = number % scale
    return rest if 2 * rest <= scale else rest - scale
