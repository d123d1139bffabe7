"""Loads: lists of whole weights, one for each hole of a wheel, and what is reckoned with them."""

from evenhub.errors import NoFit, NoTurn, TooWide
from evenhub.wholes import divisor

MOST_HOLES = 420


def hung(n, hole, weight):
    outcome = [0] * n
    outcome[hole % n] = weight
    return outcome


def plus(one, other):
    check_fit(one, other)
    return [weight + more for weight, more in zip(one, other)]


def check_fit(one, other):
    if len(one) != len(other):
        raise NoFit("the loads have unlike numbers of holes")


def scaled(load, many):
    return [weight * many for weight in load]


def turned(load, far):
    n = len(load)
    outcome = [0] * n
    for hole, weight in enumerate(load):
        outcome[(hole + far) % n] = weight
    return outcome


def skipped(load, step):
    n = len(load)
    if divisor(step, n) != 1:
        # The step isn't told in words: one of very many figures can't be made a text.
        raise NoTurn("the divisor of the step and the number of holes isn't 1")
    outcome = [0] * n
    for hole, weight in enumerate(load):
        outcome[hole * step % n] = weight
    return outcome


def laid_on(one, other):
    check_fit(one, other)
    # A hole without weight brings nothing, and a load made finer has many of them.
    borne = [(hole, weight) for hole, weight in enumerate(one) if weight != 0]
    return [brought(borne, other, place) for place in range(len(other))]


def brought(borne, other, place):
    n = len(other)
    return sum([weight * other[(place - hole) % n] for hole, weight in borne])


def finer(load, many):
    n = many * len(load)
    # Asked before anything is built: many may have hundreds of figures.
    if n > MOST_HOLES:
        raise TooWide(f"the finer wheel would have more than {MOST_HOLES} holes")
    outcome = [0] * n
    for hole, weight in enumerate(load):
        outcome[many * hole] = weight
    return outcome
