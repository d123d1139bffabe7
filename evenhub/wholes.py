"""Whole numbers: what one is, the divisor, the joint, the power rest."""


def is_whole(thing):
    # Python counts True and False as ints; here they are truths, not numbers.
    return isinstance(thing, int) and not isinstance(thing, bool)


def divisor(one, other):
    great = abs(one)
    small = abs(other)
    while small != 0:
        left = great % small
        great = small
        small = left
    return great


def joint(one, other):
    return one // divisor(one, other) * other


def power_rest(base, many, n):
    # By squares, since many may have hundreds of figures.
    # The first rest is taken by n too: by 1 even the product of none leaves 0.
    outcome = 1 % n
    square = base % n
    left = many
    while left > 0:
        if left % 2 == 1:
            outcome = outcome * square % n
        square = square * square % n
        left = left // 2
    return outcome
