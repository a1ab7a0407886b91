"""Statements: deeds on a store, told by the views that they write and read."""

from pacehall.floors import refuse_rooms
from pacehall.places import refuse_long
from pacehall.stores import refuse_count


def refuse_two(one, other):
    refuse_rooms(one, other)
    refuse_count(one, other.count())


class Statement:

    def writes(self):
        return []

    def reads(self):
        return []

    def run(self, store):
        pass


class Fill(Statement):

    def __init__(self, to, value):
        self.to = to
        self.value = value

    def writes(self):
        return [self.to]

    def run(self, store):
        store.fill(self.to, self.value)


class Copy(Statement):

    def __init__(self, to, source):
        refuse_two(to, source)
        self.to = to
        self.source = source

    def writes(self):
        return [self.to]

    def reads(self):
        return [self.source]

    def run(self, store):
        store.copied(self.to, self.source)


# Both views are read ahead of any writing, so that what is refused is refused by then.
class Swap(Statement):

    def __init__(self, one, other):
        refuse_two(one, other)
        self.one = one
        self.other = other

    def writes(self):
        return [self.one, self.other]

    def reads(self):
        return [self.one, self.other]

    def run(self, store):
        ours = store.read(self.one)
        theirs = store.read(self.other)
        store.put(self.one, theirs)
        store.put(self.other, ours)


class Raise(Statement):

    def __init__(self, to, source):
        refuse_two(to, source)
        self.to = to
        self.source = source

    def writes(self):
        return [self.to]

    def reads(self):
        return [self.to, self.source]

    def run(self, store):
        more = store.read(self.source)
        store.put(self.to, [value + other for value, other in zip(store.read(self.to), more)])


def views_of(statement):
    return statement.writes() + statement.reads()


def refuse_views(views):
    for view in views:
        refuse_rooms(views[0], view)
    for view in views:
        refuse_long(view.count())


def cells_of(views):
    found = {}
    for view in views:
        for cell in view.cells():
            found[cell] = True
    return found


def meet(some, others):
    cells = cells_of(others)
    return any([cell in cells for cell in cells_of(some)])


def clash(one, other):
    refuse_views(views_of(one) + views_of(other))
    return meet(one.writes(), views_of(other)) or meet(other.writes(), one.reads())
