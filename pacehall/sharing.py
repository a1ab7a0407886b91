"""Whether two views share a cell: a place in each, or a paper that shows that they share none."""

from pacehall.cases import end_of, greatest_sum, least_sum
from pacehall.errors import NoMost
from pacehall.numbers import is_whole
from pacehall.terms import gathered, pulls

MOST_CASES = 100000


def first_case(terms):
    return [(term[1], term[2]) for term in terms]


# The upper part lies below the lower one, which is looked at first.
def parted(case, k, at):
    upper = list(case)
    lower = list(case)
    upper[k] = (at + 1, case[k][1])
    lower[k] = (case[k][0], at)
    return [upper, lower]


# Of a case that isn't ended: numbers whose sum is the goal, where they are seen at once.
def numbers_at_once(terms, goal, case):
    if least_sum(terms, case) == goal:
        return [bounds[0] for bounds in case]
    if greatest_sum(terms, case) == goal:
        return [bounds[1] for bounds in case]
    return None


# The numbers of one term that can be, whatever the other terms' are: those by which the goal is neither
# overshot with all others at their least nor missed with all at their greatest.
def narrowed(times, bounds, above_least, below_greatest):
    return (max(bounds[0], bounds[1] - below_greatest // times), min(bounds[1], bounds[0] + above_least // times))


# The term with the fewest numbers that can be. Those that can't be are split off first, and are then ended; so a
# term that can be but one number is settled by two partings.
def parting(terms, goal, case):
    above_least = goal - least_sum(terms, case)
    below_greatest = greatest_sum(terms, case) - goal
    best = None
    for k, bounds in enumerate(case):
        if bounds[0] < bounds[1]:
            kept = narrowed(terms[k][0], bounds, above_least, below_greatest)
            if best is None or kept[1] - kept[0] < best[1][1] - best[1][0]:
                best = (k, kept)
    k = best[0]
    kept = best[1]
    if kept[1] < case[k][1]:
        return ("part", k, kept[1])
    if kept[0] > case[k][0]:
        return ("part", k, kept[0] - 1)
    return ("part", k, case[k][0])


# Each axis takes as much as it can of what its term's number lies above the term's low.
def places_by_numbers(one, other, terms, numbers):
    left = {}
    for term, number in zip(terms, numbers):
        left[term[0]] = number - term[1]
    place = []
    for pace, size in pulls(one, other):
        taken = min(size - 1, left.get(abs(pace), 0))
        left[abs(pace)] = left.get(abs(pace), 0) - taken
        place.append(taken if pace >= 0 else size - 1 - taken)
    many = len(one.axes)
    return ("shared", tuple(place[:many]), tuple(place[many:]))


def shares(one, other, most=1000):
    found = gathered(one, other)
    if not is_whole(most) or most < 1 or most > MOST_CASES:
        raise NoMost("this is no bound on the cases")
    terms = found[0]
    goal = found[1]
    cases = [first_case(terms)]
    paper = []
    looked = 0
    while len(cases) > 0:
        if looked == most:
            return ("open",)
        looked = looked + 1
        case = cases.pop()
        step = end_of(terms, goal, case)
        if step is None:
            numbers = numbers_at_once(terms, goal, case)
            if numbers is not None:
                return places_by_numbers(one, other, terms, numbers)
            step = parting(terms, goal, case)
            cases.extend(parted(case, step[1], step[2]))
        paper.append(step)
    return ("apart", paper)


# What kind of thing stands where is asked ahead of what it is: a step may be whatever was handed in.
def is_step(thing, word, many):
    if not isinstance(thing, tuple) or len(thing) != many + 1 or not isinstance(thing[0], str):
        return False
    return thing[0] == word and all([is_whole(number) for number in thing[1:]])


def divides_all(terms, case, number):
    return all([term[0] % number == 0 for term, bounds in zip(terms, case) if bounds[0] < bounds[1]])


def ends_by(terms, goal, case, step):
    least = least_sum(terms, case)
    if is_step(step, "low", 0):
        return least > goal
    if is_step(step, "high", 0):
        return greatest_sum(terms, case) < goal
    if is_step(step, "rest", 1) and step[1] >= 2:
        return divides_all(terms, case, step[1]) and (goal - least) % step[1] != 0
    return False


def parts_by(case, step):
    if not is_step(step, "part", 2) or not 0 <= step[1] < len(case):
        return False
    return case[step[1]][0] <= step[2] < case[step[1]][1]


def is_apart(one, other, paper):
    found = gathered(one, other)
    if not isinstance(paper, list):
        return False
    cases = [first_case(found[0])]
    for step in paper:
        if len(cases) == 0:
            return False
        case = cases.pop()
        if parts_by(case, step):
            cases.extend(parted(case, step[1], step[2]))
        elif not ends_by(found[0], found[1], case, step):
            return False
    return len(cases) == 0
