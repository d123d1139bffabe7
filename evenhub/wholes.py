"""Whole numbers: what one is, the divisor, the joint, the power rest, and how a divisor is come to."""

# With fewer bits long numbers are gone through more often, with more the bits themselves are no longer short.
LEAD_BITS = 128


def is_whole(thing):
    # Python counts True and False as ints; here they are truths, not numbers.
    return isinstance(thing, int) and not isinstance(thing, bool)


def divisor(one, other):
    great = abs(one)
    small = abs(other)
    while small != 0:
        left = great % small
        great = small
        small = left
    return great


def joint(one, other):
    return one // divisor(one, other) * other


def power_rest(base, many, n):
    # By squares, since many may have hundreds of figures.
    # The first rest is taken by n too: by 1 even the product of none leaves 0.
    outcome = 1 % n
    square = base % n
    left = many
    while left > 0:
        if left % 2 == 1:
            outcome = outcome * square % n
        square = square * square % n
        left = left // 2
    return outcome


def euclid(one, other, bits):
    # Of numbers from 0 on: each rest is other times its count, but for a multiple of one. Told are, each with its
    # count, the last rest longer than bits and the first one that isn't; for no bits these are the divisor and 0.
    rests = (one, other)
    counts = (0, 1)
    while rests[1].bit_length() > bits:
        turn = next_turn(rests, bits)
        rests = turned_on(rests, turn)
        counts = turned_on(counts, turn)
    return (rests[0], counts[0], rests[1], counts[1])


def turned_on(pair, turn):
    return (turn[0] * pair[0] + turn[1] * pair[1], turn[2] * pair[0] + turn[3] * pair[1])


def next_turn(rests, bits):
    # Long rests are gone on with many at once: as far as their first bits tell, which are divided far faster.
    length = min(rests[0].bit_length(), rests[1].bit_length())
    if length > bits + LEAD_BITS:
        behind = length - LEAD_BITS
        turn = sure_turn(rests[0] >> behind, rests[1] >> behind)
        if turn != (1, 0, 0, 1):
            return turn
    return (0, 1, 1, -(rests[0] // rests[1]))


def sure_turn(rest, later_rest):
    turn = (1, 0, 0, 1)
    while later_rest != 0:
        many = rest // later_rest
        new_rest = rest - many * later_rest
        further = (turn[2], turn[3], turn[0] - many * turn[2], turn[1] - many * turn[3])
        # The bits left out change the new rest by less than this. The quotient is sure where they neither bring it
        # below 0 nor up to the rest ahead of it.
        doubt = max(abs(further[2]), abs(further[3]))
        if new_rest <= doubt or later_rest - new_rest <= doubt + max(abs(turn[2]), abs(turn[3])):
            return turn
        turn = further
        rest = later_rest
        later_rest = new_rest
    return turn
