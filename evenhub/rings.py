"""Even rings: one weight in each of p holes evenly round the wheel, and rows of them laid."""

from evenhub.errors import NoRing
from evenhub.primes import parts


def ring(n, p, hole):
    return laid(n, [(p, hole, 1)])


def laid(n, rows):
    primes = [prime for prime, power in parts(n)]
    outcome = [0] * n
    for p, hole, many in rows:
        # Asked of each row, also where many is 0 and nothing would be laid.
        if p not in primes:
            raise NoRing("a ring is of a prime that divides the number of holes")
        lay_ring(outcome, p, hole, many)
    return outcome


def lay_ring(load, p, hole, many):
    # This changes the load it is handed, so it is handed only loads that are still being made.
    for place in ring_holes(len(load), p, hole):
        load[place] = load[place] + many


def ring_holes(n, p, hole):
    step = n // p
    return list(range(hole % step, n, step))
