"""Statements dealt into rounds: in each, whatever the order, the floor is left the same."""

from pacehall.errors import TooMany
from pacehall.statements import cells_of, refuse_views, views_of

MOST_STATEMENTS = 60


def refuse_statements(statements):
    if len(statements) > MOST_STATEMENTS:
        raise TooMany(len(statements))
    views = []
    for statement in statements:
        views.extend(views_of(statement))
    refuse_views(views)


# For each statement its round, and one ahead of it in the round before with which it clashes (None in round 0).
# Kept for each cell are the statements of the greatest round that wrote it and that wrote or read it.
def dealt(statements):
    found = []
    wrote = {}
    touched = {}
    for number, statement in enumerate(statements):
        written = cells_of(statement.writes())
        read = cells_of(statement.reads())
        rivals = [touched[cell] for cell in written if cell in touched]
        rivals.extend([wrote[cell] for cell in read if cell in wrote])
        before = max(rivals, key=lambda rival: found[rival][0], default=None)
        at = 0 if before is None else found[before][0] + 1
        found.append((at, before))
        for cell in read:
            if cell not in touched or found[touched[cell]][0] < at:
                touched[cell] = number
        for cell in written:
            touched[cell] = number
            wrote[cell] = number
    return found


def rounds(statements):
    refuse_statements(statements)
    found = dealt(statements)
    many = max([at + 1 for at, before in found], default=0)
    told = [[] for at in range(many)]
    for number, row in enumerate(found):
        told[row[0]].append(number)
    return told


def chain(statements):
    refuse_statements(statements)
    found = dealt(statements)
    told = []
    number = max(list(range(len(found))), key=lambda k: found[k][0], default=None)
    while number is not None:
        told.append(number)
        number = found[number][1]
    told.reverse()
    return told


# All are of one room by then, and none is too long: if any is refused, the first one with a view is, ahead of all.
def run_all(store, statements):
    for numbers in rounds(statements):
        for number in numbers:
            statements[number].run(store)
