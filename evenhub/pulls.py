"""Pulls: a load is even just where it is pulled 0 at each hole."""

from evenhub.primes import divisors, sign
from evenhub.wholes import divisor


def pull(n, far):
    # What divides both n and far is what divides their divisor, which is n where far is 0.
    return sum([d * sign(n // d) for d in divisors(divisor(n, far))])


def pulled(load, hole):
    n = len(load)
    by_divisor = pulls_by_divisor(n)
    return sum([weight * by_divisor[divisor(n, k - hole)] for k, weight in enumerate(load)])


def pulls_by_divisor(n):
    # The pull hangs on the divisor of n and far alone, and there are far fewer of these than holes.
    found = {}
    for d in divisors(n):
        found[d] = pull(n, d)
    return found
