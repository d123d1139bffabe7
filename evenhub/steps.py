"""Steps: whether they come to a goal, each taken a whole number of times, told with a way or a bar."""

from evenhub.frames import Frame, centred, column_of, lessened, picked, spread
from evenhub.loads import hung
from evenhub.papers import weighed
from evenhub.primes import parts
from evenhub.wholes import euclid, joint

# Great, so that steps hardly ever hang on one another by it that else don't, but not so great that the primes
# behind it are slow to find.
FIRST_PRIME = 1000000007


def reach(steps, goal):
    prime = FIRST_PRIME
    told = sought(steps, goal, prime)
    # Whether a way or a bar is one can be seen of itself. Only a prime by which too many steps hang on one another
    # gives one that isn't, and of such primes steps have but a few.
    while not is_shown(steps, goal, told):
        prime = next_prime(prime)
        told = sought(steps, goal, prime)
    return told


def next_prime(number):
    found = number + 1
    while parts(found) != [(found, found)]:
        found = found + 1
    return found


def is_shown(steps, goal, told):
    if told[0] == "way":
        return summed(steps, told[1], len(goal)) == goal
    return first_unbarred(steps, told) is None and first_unbarred([goal], told) == 0


def summed(steps, counts, size):
    outcome = [0] * size
    for step, many in zip(steps, counts):
        outcome = [number + many * more for number, more in zip(outcome, step)]
    return outcome


def first_unbarred(steps, bar):
    for number, step in enumerate(steps):
        if not divides(bar[2], weighed(step, bar[1])):
            return number
    return None


def divides(modulus, number):
    if modulus == 0:
        return number == 0
    return number % modulus == 0


def sought(steps, goal, prime):
    frame = Frame(steps, len(goal), prime)
    column = frame.missed(goal)
    if column is None:
        return sought_within(steps, frame, frame.counts(goal))
    # What the chosen steps have in this column is outweighed by their others; what the goal has there isn't.
    told = frame.weights(column_of(picked(steps, frame.chosen), column))
    weights = [-number for number in told[0]]
    weights[column] = told[1]
    return ("bar", weights, 0)


def sought_within(steps, frame, goal_made):
    # First with the chosen steps alone, then with those besides that get past the bar: mostly few are needed.
    others = []
    told = sought_with(others, steps, frame, goal_made)
    while told[0] == "bar":
        number = first_unbarred(steps, told)
        if number is None:
            return told
        others.append((number, frame.counts(steps[number])))
        told = sought_with(others, steps, frame, goal_made)
    return told


def sought_with(others, steps, frame, goal_made):
    # All is told by counts of the chosen steps, times the modulus so that they are whole. The chosen steps
    # themselves so come to whatever the modulus divides.
    modulus = goal_made[1]
    for number, made in others:
        modulus = joint(modulus, made[1])
    rows = [whole_counts(made, modulus) for number, made in others]
    goal = whole_counts(goal_made, modulus)
    leads = leads_of(rows, len(goal), modulus)
    left = goal + [0] * len(rows)
    for column, lead in enumerate(leads):
        if left[column] % lead[column] != 0:
            return inner_bar(frame, barring(leads, column, modulus))
        left = lessened(left, left[column] // lead[column], lead, modulus)
    taken = [centred(-many, modulus) for many in left[len(goal):]]
    spared = summed([goal] + rows, [1] + [-many for many in taken], len(goal))
    counts = taken + [many // modulus for many in spared]
    return ("way", spread(len(steps), [number for number, made in others] + frame.chosen, counts))


def whole_counts(made, modulus):
    return [top * (modulus // made[1]) for top in made[0]]


def leads_of(rows, size, modulus):
    # One lead for each column, with 0 ahead of that column and a divisor of the modulus in it. Together the leads
    # come to what the rows come to, by the modulus. Behind its columns a lead has how often each row is in it.
    leads = [hung(size + len(rows), column, modulus) for column in range(size)]
    for number, row in enumerate(rows):
        leads = entered(leads, row + hung(len(rows), number, 1), modulus)
    return leads


def entered(leads, row, modulus):
    outcome = []
    left = [number % modulus for number in row]
    for column, lead in enumerate(leads):
        if left[column] == 0:
            outcome.append(lead)
        else:
            told = euclid(lead[column], left[column], 0)
            many = (told[0] - told[1] * left[column]) // lead[column]
            outcome.append(mixed(lead, many, left, told[1], modulus))
            left = mixed(left, lead[column] // told[0], lead, -(left[column] // told[0]), modulus)
    return outcome


def mixed(one, many, other, more, modulus):
    return [(number * many + beyond * more) % modulus for number, beyond in zip(one, other)]


def barring(leads, column, modulus):
    # Amounts by which each lead weighs what the modulus divides; not so what has 0 ahead of the column and in it
    # what the lead there doesn't divide. The leads behind an earlier one make sure that its division leaves nothing.
    amounts = hung(len(leads), column, modulus // leads[column][column])
    for place in range(column - 1, -1, -1):
        lead = leads[place]
        later = weighed(lead[place + 1:column + 1], amounts[place + 1:column + 1])
        amounts[place] = -(later // lead[place]) % (modulus // lead[place])
    return amounts


def inner_bar(frame, amounts):
    told = frame.weights(amounts)
    return ("bar", [number % told[1] for number in told[0]], told[1])
