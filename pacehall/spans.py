"""Spans: every so many-th of the numbers of one size."""

from pacehall.errors import NoCells, NoStep


def span(size, start=None, stop=None, step=None):
    stride = 1 if step is None else step
    if stride == 0:
        raise NoStep("a span needs a step above 0 or below it")
    # A span that goes down may stop ahead of 0, so its bounds lie one lower.
    low = 0 if stride > 0 else -1
    high = low + size
    first = low if stride > 0 else high
    end = high if stride > 0 else low
    if start is not None:
        first = held(start, size, low, high)
    if stop is not None:
        end = held(stop, size, low, high)
    many = steps_between(first, end, stride)
    if many < 1:
        raise NoCells("a span has to take one number at least")
    return (first, many, stride)


def held(bound, size, low, high):
    counted = bound + size if bound < 0 else bound
    return max(low, min(high, counted))


# Rounded up: the last step may lead beyond the end. Below 1 where the end lies the other way.
def steps_between(first, end, stride):
    return -((first - end) // stride)
