"""Stacks: sums of primes and of rings in which nothing is taken away, on wheels with at most two primes."""

from evenhub.errors import NoWheel
from evenhub.primes import back, parts
from evenhub.rings import laid, ring_holes


def prime_sum(n, many):
    primes = few_primes(n)
    if len(primes) < 2:
        return one_prime_sum(primes, many)
    small = primes[0]
    great = primes[1]
    # The least count of the greater prime that leaves by the smaller one what many leaves.
    count = many * back(great, small) % small
    left = many - count * great
    if left < 0:
        return None
    return [left // small, count]


def few_primes(n):
    primes = [p for p, q in parts(n)]
    if len(primes) > 2:
        raise NoWheel("more than two primes divide the number of holes")
    return primes


def one_prime_sum(primes, many):
    if many == 0:
        return [0 for p in primes]
    if primes == [] or many < 0 or many % primes[0] != 0:
        return None
    return [many // primes[0]]


def stacked(load):
    n = len(load)
    primes = few_primes(n)
    if min(load) < 0:
        return None
    rows = [row for row in likely_rows(load, primes) if row[2] != 0]
    # If the load is even it is these rows laid; whether it is, only the laying tells.
    if laid(n, rows) == load:
        return rows
    return None


def likely_rows(load, primes):
    if primes == []:
        return []
    p = primes[0]
    if len(primes) == 1:
        return [(p, hole, load[hole]) for hole in range(len(load) // p)]
    rows = []
    for hole in range(len(load) // (p * primes[1])):
        rows.extend(crossing_rows(load, p, primes[1], hole))
    return rows


def crossing_rows(load, p, other, hole):
    # Each ring of the other prime that meets the ring (p, hole) meets all rings of p that any of them meets, each in
    # one hole. So an even load has in each such hole the sum of a number for either ring. The numbers for the other
    # prime are told from the lowest, so that neither kind is below nought.
    across = ring_holes(len(load), p, hole)
    low = min(across, key=lambda place: load[place])
    rows = [(other, place, load[place] - load[low]) for place in across]
    rows.extend([(p, place, load[place]) for place in ring_holes(len(load), other, low)])
    return rows
