"""Cases: bounds for the numbers of all terms, and whether the goal is out of reach within them."""

from pacehall.numbers import divisor_of


def least_sum(terms, case):
    return sum([term[0] * bounds[0] for term, bounds in zip(terms, case)])


def greatest_sum(terms, case):
    return sum([term[0] * bounds[1] for term, bounds in zip(terms, case)])


def rest_of(terms, case):
    return divisor_of([term[0] for term, bounds in zip(terms, case) if bounds[0] < bounds[1]])


# The step of a paper that ends the case; None where it isn't ended.
def end_of(terms, goal, case):
    least = least_sum(terms, case)
    if least > goal:
        return ("low",)
    if greatest_sum(terms, case) < goal:
        return ("high",)
    rest = rest_of(terms, case)
    if rest > 1 and (goal - least) % rest != 0:
        return ("rest", rest)
    return None


def is_ended(terms, goal, case):
    return end_of(terms, goal, case) is not None
