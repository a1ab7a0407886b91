"""A hall: a store with names for views of its floor, and deeds that can be taken back."""

from pacehall.errors import Known, NoDeed, NoName
from pacehall.floors import whole
from pacehall.places import refuse_long
from pacehall.stores import Store

LETTERS = "abcdefghijklmnopqrstuvwxyz"
MOST_LETTERS = 8


def is_name(thing):
    if not isinstance(thing, str) or not 1 <= len(thing) <= MOST_LETTERS:
        return False
    return all([letter in LETTERS for letter in thing])


class Hall:

    def __init__(self, values):
        self.store = Store(values)
        self.views = {}
        # The values ahead of each deed that can still be taken back.
        self.past = []

    def refuse_new(self, name):
        if not is_name(name):
            raise NoName(name)
        if name in self.views:
            raise Known(name)

    def call(self, name, view):
        self.refuse_new(name)
        self.store.refuse_room(view)
        refuse_long(view.count())
        self.views[name] = view

    def make(self, name, of, move):
        self.refuse_new(name)
        self.call(name, move.on(self.view(of)))

    def drop(self, name):
        self.view(name)
        self.views.pop(name)

    # Whatever is handed in: what is no name can't be looked up either.
    def view(self, name):
        if not is_name(name) or name not in self.views:
            raise NoName(name)
        return self.views[name]

    def seen(self, name):
        return self.store.read(self.view(name))

    def names(self):
        return list(self.views)

    def all_values(self):
        return self.store.all_values()

    def changed_since(self, before):
        changed = {}
        for cell, value in enumerate(self.store.all_values()):
            if value != before[cell]:
                changed[cell] = True
        if len(changed) == 0:
            return []
        return [name for name in self.views if any([cell in changed for cell in self.views[name].cells()])]

    def do(self, statement):
        before = self.store.all_values()
        statement.run(self.store)
        self.past.append(before)
        return self.changed_since(before)

    def back(self):
        if len(self.past) == 0:
            raise NoDeed("there is no deed left to be taken back")
        before = self.store.all_values()
        self.store.put(whole([len(before)]), self.past.pop())
        return self.changed_since(before)
