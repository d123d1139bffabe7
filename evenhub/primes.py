"""What primes make of a number: its parts, sign, divisors and units, and the way back from a step."""

from evenhub.errors import NoTurn
from evenhub.wholes import divisor, euclid


def parts(n):
    found = []
    left = n
    p = 2
    while p * p <= left:
        q = prime_power(left, p)
        if q > 1:
            found.append((p, q))
            left = left // q
        p = p + 1
    # What no number up to its root divides is itself a prime.
    if left > 1:
        found.append((left, left))
    return found


def prime_power(n, p):
    q = 1
    while n % (q * p) == 0:
        q = q * p
    return q


def sign(n):
    outcome = 1
    for p, q in parts(n):
        if q != p:
            return 0
        outcome = -outcome
    return outcome


def divisors(n):
    found = [1]
    for p, q in parts(n):
        found = found + multiples(found, p, q)
    return sorted(found)


def multiples(numbers, p, q):
    found = []
    power = p
    while power <= q:
        found.extend([number * power for number in numbers])
        power = power * p
    return found


def units(n):
    return [k for k in range(1, n + 1) if divisor(k, n) == 1]


def back(step, n):
    told = euclid(n, step % n, 0)
    if told[0] != 1:
        # The step isn't told in words: one of very many figures can't be made a text.
        raise NoTurn("the divisor of the step and the number isn't 1")
    # From 1 to n and not from 0 on, so that by 1 the answer is 1.
    return (told[1] - 1) % n + 1
