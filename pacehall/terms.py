"""Two views of one floor, gathered into terms: by these it is asked whether they share a cell."""

from pacehall.floors import refuse_rooms


# The other view's paces are turned about, so that a shared cell is a sum of all axes that makes up for the firsts.
def pulls(one, other):
    return [(pace, size) for size, pace in one.axes] + [(-pace, size) for size, pace in other.axes]


def gathered(one, other):
    refuse_rooms(one, other)
    lows = {}
    highs = {}
    for pace, size in pulls(one, other):
        if pace != 0:
            times = abs(pace)
            reach = size - 1 if pace > 0 else 1 - size
            lows[times] = lows.get(times, 0) + min(0, reach)
            highs[times] = highs.get(times, 0) + max(0, reach)
    terms = [(times, lows[times], highs[times]) for times in sorted(lows, reverse=True)]
    return (terms, other.first - one.first)
