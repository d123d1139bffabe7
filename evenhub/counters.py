"""Counterweights: blocks that, hung on whole numbers of times, make a load even, told with a way or a bar."""

from evenhub.errors import TooWide
from evenhub.loads import check_fit, plus, scaled
from evenhub.papers import weighing
from evenhub.rests import kept, rest
from evenhub.steps import reach

MOST_HOLES_COUNTERED = 60


def counter(load, blocks):
    for block in blocks:
        check_fit(load, block)
    n = len(load)
    if n > MOST_HOLES_COUNTERED:
        raise TooWide(f"counterweights are sought on wheels of at most {MOST_HOLES_COUNTERED} holes")
    holes = kept(n)
    # Loads are alike but for even ones just where their rests are, so the rests alone must come to nought.
    told = reach([kept_rest(block, holes) for block in blocks], scaled(kept_rest(load, holes), -1))
    if told[0] == "way":
        return told
    return ("bar", all_weighings(n, holes, told[1]), told[2])


def kept_rest(load, holes):
    left = rest(load)[0]
    return [left[hole] for hole in holes]


def all_weighings(n, holes, weights):
    # By these a load weighs what its rest weighs by the weights, and each even ring 0.
    outcome = [0] * n
    for hole, many in zip(holes, weights):
        outcome = plus(outcome, scaled(weighing(n, hole), many))
    return outcome
