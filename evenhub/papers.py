"""Papers: weighings of a load, and what shows that it is even or that it isn't."""

from evenhub.errors import NoHole, NoRing
from evenhub.loads import check_fit
from evenhub.primes import back, parts
from evenhub.rests import is_kept, rest, share
from evenhub.rings import laid


def weighed(load, weights):
    check_fit(load, weights)
    return sum([weight * number for weight, number in zip(load, weights)])


def weighing(n, hole):
    if not is_kept(n, hole):
        # The hole isn't told in words: one of very many figures can't be made a text.
        raise NoHole("the hole isn't kept")
    outcome = [1] * n
    for p, q in parts(n):
        factors = part_weighing(p, q, share(n, q, hole))
        lead = back(n // q, q)
        outcome = [number * factors[k * lead % q] for k, number in enumerate(outcome)]
    return outcome


def part_weighing(p, q, kept_share):
    # By shares, of which a part has at most as many as the wheel has holes, and mostly far fewer.
    step = q // p
    factors = [0] * q
    factors[kept_share] = 1
    # The one share with the same rest by step and the top p - 1; it is another one, since the hole is kept.
    factors[q - step + kept_share % step] = -1
    return factors


def paper(load):
    told = rest(load)
    for hole, weight in enumerate(told[0]):
        # A load weighs by the weighing of a kept hole what its rest has there.
        if weight != 0:
            return ("uneven", weighing(len(load), hole))
    return ("even", told[1])


def holds(load, paper):
    if paper[0] == "even":
        return rows_hold(load, paper[1])
    return weights_hold(load, paper[1])


def rows_hold(load, rows):
    try:
        return laid(len(load), rows) == load
    except NoRing:
        return False


def weights_hold(load, weights):
    if len(weights) != len(load) or weighed(load, weights) == 0:
        return False
    return all([rings_weigh_nought(weights, p) for p, q in parts(len(load))])


def rings_weigh_nought(weights, p):
    step = len(weights) // p
    return all([sum(weights[hole::step]) == 0 for hole in range(step)])


def is_even(load):
    return not any(rest(load)[0])
