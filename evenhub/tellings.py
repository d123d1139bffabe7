"""Values: what loads divided by whole numbers tell, each in one plain way over all wheels."""

from evenhub.errors import NoNumber, NoWheel, TooWide
from evenhub.loads import MOST_HOLES, finer, hung, laid_on, plus, scaled
from evenhub.papers import paper
from evenhub.rests import rest
from evenhub.wholes import divisor, joint


def value(load, bottom):
    if bottom == 0:
        raise NoNumber("a load is not divided by 0")
    left = rest(load)[0]
    n = len(left)
    # A rest is one made finer just where all its weights lie in such steps.
    step = divisor_of_all(n, [hole for hole, weight in enumerate(left) if weight != 0])
    weights = left[::step]
    by = divisor_of_all(bottom, weights)
    if bottom < 0:
        by = -by
    return (n // step, tuple([weight // by for weight in weights]), bottom // by)


def divisor_of_all(first, others):
    outcome = abs(first)
    for number in others:
        outcome = divisor(outcome, number)
    return outcome


def whole(many):
    return (1, (many,), 1)


def turn(n, hole):
    return value(hung(n, hole, 1), 1)


def on(x, n):
    if n % x[0] != 0:
        raise NoWheel("the number of holes of the value's own wheel doesn't divide that of the other")
    return finer(x[1], n // x[0])


def joint_wheel(x, y):
    n = joint(x[0], y[0])
    if n > MOST_HOLES:
        raise TooWide(f"the joint wheel of both values would have more than {MOST_HOLES} holes")
    return n


def raised(x, y, n):
    # Over the product of both bottoms, as both values are when they are summed or compared.
    return scaled(on(x, n), y[2])


def added(x, y):
    n = joint_wheel(x, y)
    return value(plus(raised(x, y, n), raised(y, x, n)), x[2] * y[2])


def against(x):
    return (x[0], tuple([-weight for weight in x[1]]), x[2])


def times(x, y):
    n = joint_wheel(x, y)
    return value(laid_on(on(x, n), on(y, n)), x[2] * y[2])


def apart(x, y):
    n = joint_wheel(x, y)
    load = plus(raised(x, y, n), scaled(raised(y, x, n), -1))
    return (load, paper(load))


def is_value(thing):
    # There is one telling of each value, so a tuple is one where it is told by itself.
    return thing[2] > 0 and value(thing[1], thing[2]) == thing
