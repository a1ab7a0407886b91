"""Moves that make two axes of one, or one of two."""

from pacehall.moves import Move, refuse_axis, refuse_unless, replaced


class Cut(Move):

    def __init__(self, axis, inner):
        self.axis = axis
        self.inner = inner

    def behind(self, sizes):
        refuse_axis(sizes, self.axis)
        size = sizes[self.axis]
        refuse_unless(self.inner >= 1 and size % self.inner == 0)
        return replaced(sizes, self.axis, [size // self.inner, self.inner])

    def ahead(self, sizes, place):
        number = place[self.axis] * self.inner + place[self.axis + 1]
        return joined(place, self.axis, number)

    def told(self):
        return ("cut", self.axis, self.inner)


class Window(Move):

    def __init__(self, axis, size):
        self.axis = axis
        self.size = size

    def behind(self, sizes):
        refuse_axis(sizes, self.axis)
        refuse_unless(1 <= self.size <= sizes[self.axis])
        return replaced(sizes, self.axis, [sizes[self.axis] - self.size + 1, self.size])

    def ahead(self, sizes, place):
        number = place[self.axis] + place[self.axis + 1]
        return joined(place, self.axis, number)

    def told(self):
        return ("window", self.axis, self.size)


class Diagonal(Move):

    def __init__(self, one, other):
        self.one = one
        self.other = other

    def behind(self, sizes):
        refuse_axis(sizes, self.one)
        refuse_axis(sizes, self.other)
        refuse_unless(self.one != self.other and sizes[self.one] == sizes[self.other])
        kept = [size for axis, size in enumerate(sizes) if axis not in (self.one, self.other)]
        return kept + [sizes[self.one]]

    # The lesser axis comes back in first, so that the greater one has its number again by then.
    def ahead(self, sizes, place):
        found = list(place[:-1])
        found.insert(min(self.one, self.other), place[-1])
        found.insert(max(self.one, self.other), place[-1])
        return tuple(found)

    def told(self):
        return ("diagonal", self.one, self.other)


# An axis and the one behind it become one again, with this number.
def joined(place, axis, number):
    return place[:axis] + (number,) + place[axis + 2:]
