"""Rests: the shares of a hole, the holes that are kept, and the one load on these that differs by an even one."""

from evenhub.primes import back, parts
from evenhub.rings import lay_ring


def shares(n, hole):
    return [share(n, q, hole) for p, q in parts(n)]


def share(n, q, hole):
    # By q the shares of all other parts leave 0, so this one times n/q leaves what the hole leaves.
    return hole * back(n // q, q) % q


def is_kept(n, hole):
    return all([share(n, q, hole) < first_dropped(p, q) for p, q in parts(n)])


def first_dropped(p, q):
    # From this share on the top is p - 1.
    return q - q // p


def kept(n):
    return [hole for hole in range(n) if is_kept(n, hole)]


def rest(load):
    n = len(load)
    left = list(load)
    rows = []
    for p, q in parts(n):
        # A ring of p leaves the tops of the other parts as they are, so holes that were cleared stay clear.
        for hole in dropped(n, p, q):
            many = left[hole]
            if many != 0:
                lay_ring(left, p, hole, -many)
                rows.append((p, hole, many))
    return (left, rows)


def dropped(n, p, q):
    # One for each ring of p: going on by n/p raises the top by 1, from p - 1 to 0.
    lead = back(n // q, q)
    return [hole for hole in range(n) if hole * lead % q >= first_dropped(p, q)]
