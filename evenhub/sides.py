"""Sides: what a value becomes where its wheel is skipped, and the sum and the product of all of these."""

from evenhub.errors import TooWide
from evenhub.loads import skipped
from evenhub.primes import units
from evenhub.tellings import added, times, value, whole

MOST_HOLES_SIDED = 60


def side(x, step):
    return value(skipped(x[1], step), x[2])


def mirrored(x):
    return side(x, -1)


def check_sided(x):
    if x[0] > MOST_HOLES_SIDED:
        raise TooWide(f"all sides are told of values on wheels of at most {MOST_HOLES_SIDED} holes")


def sides(x):
    check_sided(x)
    # A dict keeps the order in which its keys came, and the first of like ones.
    found = {}
    for step in units(x[0]):
        found[side(x, step)] = True
    return list(found)


def side_sum(x):
    outcome = whole(0)
    for other in sides(x):
        outcome = added(outcome, other)
    return outcome


def side_product(x):
    check_sided(x)
    n = x[0]
    outcome = x
    # The outcome is the product of the unlike sides by the steps of this group. A further step brings in the sides of
    # the outcome by its powers, up to the first that lies in the group: so few products are made, not one a side.
    group = [step for step in units(n) if side(x, step) == x]
    for step in units(n):
        powers = powers_outside(step, group, n)
        outcome = product_by_powers(outcome, powers)
        group = joined(group, powers, n)
    return outcome


def powers_outside(step, group, n):
    # The power to 0 comes first; it is 1 and in the group.
    powers = [1]
    power = step
    while power not in group:
        powers.append(power)
        power = power * step % n
    return powers


def product_by_powers(x, powers):
    # One half is a side of the other, so it is not multiplied out anew.
    many = len(powers)
    if many == 1:
        return x
    half = product_by_powers(x, powers[:many // 2])
    outcome = times(half, side(half, powers[many // 2]))
    if many % 2 == 1:
        outcome = times(outcome, side(x, powers[-1]))
    return outcome


def joined(group, powers, n):
    found = []
    for power in powers:
        found.extend([step * power % n for step in group])
    return found
