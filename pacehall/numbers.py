"""Whole numbers and their greatest common divisors."""


# A truth is an int to Python, so it has to be ruled out by name.
def is_whole(thing):
    return isinstance(thing, int) and not isinstance(thing, bool)


def divisor(one, other):
    found = abs(one)
    rest = abs(other)
    while rest != 0:
        smaller = found % rest
        found = rest
        rest = smaller
    return found


# 0 is divided by every number, so to begin with it takes nothing away from the answer.
def divisor_of(numbers):
    found = 0
    for number in numbers:
        found = divisor(found, number)
    return found
