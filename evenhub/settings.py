"""Settings: even loads of many like weights, on wheels with at most two primes."""

from evenhub.rings import laid, ring_holes
from evenhub.stacks import few_primes, prime_sum


def setting(n, many):
    if n == 1:
        # No ring lies on this wheel, so the empty load is the one setting, though the hole left out is no sum.
        return [0] if many == 0 else None
    counts = prime_sum(n, many)
    if counts is None or prime_sum(n, n - many) is None:
        return None
    rows = []
    for p, count, holes in zip(few_primes(n), counts, ring_starts(n)):
        rows.extend([(p, hole, 1) for hole in holes[:count]])
    return laid(n, rows)


def ring_starts(n):
    # For each prime a hole of as many rings as may be set.
    primes = few_primes(n)
    if len(primes) == 1:
        return [list(range(n // primes[0]))]
    return [crossing_last(n, primes[0], primes[1]), ring_holes(n, primes[0], 0)]


def crossing_last(n, small, great):
    # Rings of the greater prime are set across the ring (small, 0). The rings of the smaller one that would cross
    # them come last: if any of the greater prime are set, the others are enough, since what is left out is a sum too.
    holes = []
    for first in range(1, n // (small * great) + 1):
        holes.extend(ring_holes(n, great, first))
    return holes
