"""A desk: rows of words, each answered by a text."""

from pacehall.errors import NoDeed
from pacehall.floors import whole
from pacehall.hall import Hall, is_name
from pacehall.orders import loop_order
from pacehall.plain import plain
from pacehall.rows import rows_for
from pacehall.shapes import shaped
from pacehall.sharing import shares
from pacehall.sources import sources
from pacehall.statements import Copy, Fill, Raise, Swap
from pacehall.texts import number_in, read_move, refuse_row

# Behind each word so many names, and behind these at least and at most so many numbers.
FORMS = {
    "floor": (0, 1, 4096), "whole": (1, 0, 8), "shape": (2, 0, 8), "drop": (1, 0, 0), "names": (0, 0, 0),
    "plain": (1, 0, 0), "read": (1, 0, 0), "at": (1, 0, 8), "fill": (1, 1, 1), "copy": (2, 0, 0), "swap": (2, 0, 0),
    "raise": (2, 0, 0), "back": (0, 0, 0), "share": (2, 0, 0), "rows": (2, 0, 0), "order": (2, 0, 0),
}


def names_in(words, many):
    refuse_row(len(words) >= many and all([is_name(word) for word in words[:many]]))
    return words[:many]


# The word, the names behind it, and what stands behind these: numbers, or behind view a move.
def read_row(row):
    refuse_row(isinstance(row, str))
    words = row.split(" ")
    word = words[0]
    if word == "view":
        return (word, names_in(words[1:], 2), read_move(words[3:]))
    refuse_row(word in FORMS)
    form = FORMS[word]
    names = names_in(words[1:], form[0])
    rest = words[1 + form[0]:]
    refuse_row(form[1] <= len(rest) <= form[2])
    return (word, names, [number_in(part) for part in rest])


def listed(texts):
    return " ".join(texts) if len(texts) > 0 else "-"


def place_text(place):
    return ",".join([str(number) for number in place]) if len(place) > 0 else "()"


def say_whole(hall, names, sizes):
    hall.refuse_new(names[0])
    hall.call(names[0], whole(sizes, len(hall.all_values())))
    return "ok"


def say_view(hall, names, move):
    hall.make(names[0], names[1], move)
    return "ok"


def say_shape(hall, names, sizes):
    hall.refuse_new(names[0])
    hall.call(names[0], shaped(hall.view(names[1]), sizes))
    return "ok"


def say_drop(hall, names, numbers):
    hall.drop(names[0])
    return "ok"


def say_names(hall, names, numbers):
    return listed(hall.names())


def say_plain(hall, names, numbers):
    view = hall.view(names[0])
    return " ".join([str(view.first)] + [f"{size}*{pace}" for size, pace in plain(view)])


def say_read(hall, names, numbers):
    return listed([str(value) for value in hall.seen(names[0])])


def say_at(hall, names, numbers):
    cell = hall.view(names[0]).cell(tuple(numbers))
    return str(hall.all_values()[cell])


def say_fill(hall, names, numbers):
    return listed(hall.do(Fill(hall.view(names[0]), numbers[0])))


def say_copy(hall, names, numbers):
    return listed(hall.do(Copy(hall.view(names[0]), hall.view(names[1]))))


def say_swap(hall, names, numbers):
    return listed(hall.do(Swap(hall.view(names[0]), hall.view(names[1]))))


def say_raise(hall, names, numbers):
    return listed(hall.do(Raise(hall.view(names[0]), hall.view(names[1]))))


def say_back(hall, names, numbers):
    return listed(hall.back())


def step_text(step):
    return ":".join([str(thing) for thing in step])


def say_share(hall, names, numbers):
    told = shares(hall.view(names[0]), hall.view(names[1]))
    if told[0] == "shared":
        return " ".join([told[0], place_text(told[1]), place_text(told[2])])
    if told[0] == "apart":
        return " ".join([told[0]] + [step_text(step) for step in told[1]])
    return told[0]


def say_rows(hall, names, numbers):
    found = sources(hall.view(names[0]), hall.view(names[1]))
    return listed([f"{origin}>{cell}" for origin, cell in rows_for(found)])


def loop_text(loop):
    return str(loop[0]) + ("+" if loop[1] == 1 else "-")


def pair_text(pair):
    return place_text(pair[0]) + "/" + place_text(pair[1])


def say_order(hall, names, numbers):
    told = loop_order(hall.view(names[0]), hall.view(names[1]))
    if told[0] == "loops":
        return " ".join([told[0]] + [loop_text(loop) for loop in told[1]])
    return " ".join([told[0]] + [pair_text(pair) for pair in told[1]])


ANSWERS = {
    "whole": say_whole, "view": say_view, "shape": say_shape, "drop": say_drop, "names": say_names,
    "plain": say_plain, "read": say_read, "at": say_at, "fill": say_fill, "copy": say_copy, "swap": say_swap,
    "raise": say_raise, "back": say_back, "share": say_share, "rows": say_rows, "order": say_order,
}


class Desk:

    def __init__(self):
        self.hall = None

    def say(self, row):
        found = read_row(row)
        if (found[0] == "floor") == (self.hall is not None):
            raise NoDeed("the floor is told once, ahead of all else")
        if found[0] == "floor":
            self.hall = Hall(found[2])
            return "ok"
        return ANSWERS[found[0]](self.hall, found[1], found[2])
