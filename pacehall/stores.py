"""Stores: floors with values, read and written by views."""

from pacehall.errors import NoCells, NoCount, NoView
from pacehall.places import refuse_long


def refuse_count(view, many):
    if view.count() != many:
        raise NoCount("there is not one value for each number of the view")


class Store:

    def __init__(self, values):
        if len(values) == 0:
            raise NoCells("a store has one cell at least")
        refuse_long(len(values))
        self.floor = list(values)

    def all_values(self):
        return list(self.floor)

    def refuse_room(self, view):
        if view.room != len(self.floor):
            raise NoView("the view is of a floor of another room")

    def read(self, view):
        self.refuse_room(view)
        return [self.floor[cell] for cell in view.cells()]

    def put(self, view, values):
        self.refuse_room(view)
        refuse_count(view, len(values))
        for cell, value in zip(view.cells(), values):
            self.floor[cell] = value

    def fill(self, view, value):
        self.refuse_room(view)
        for cell in view.cells():
            self.floor[cell] = value

    def copied(self, to, source):
        self.refuse_room(to)
        self.refuse_room(source)
        refuse_count(to, source.count())
        self.put(to, self.read(source))
