import unittest

from pacehall.chains import Chain
from pacehall.cuts import Cut, Diagonal, Window
from pacehall.errors import NoRow
from pacehall.moves import Fresh, Move, Pick, Slice, Spread, Turn
from pacehall.texts import read_move, show_move
from tests.helper import NO_NUMBERS, Case, draw_move, source

TWENTY = 10 ** 20 - 1
EACH = [
    ("stay", Move()), ("slice 0 1 2 3", Slice(0, 1, 2, 3)), ("slice 1 - - -1", Slice(1, None, None, -1)),
    ("slice 2 - 5 -", Slice(2, None, 5, None)), ("slice 0 - - -", Slice(0)), ("pick 3 -1", Pick(3, -1)),
    ("turn", Turn([])), ("turn 0", Turn([0])), ("turn 2 0 1", Turn([2, 0, 1])),
    ("turn 7 6 5 4 3 2 1 0", Turn([7, 6, 5, 4, 3, 2, 1, 0])), ("fresh 0", Fresh(0)), ("spread 1 9", Spread(1, 9)),
    ("cut 0 2", Cut(0, 2)), ("window 1 3", Window(1, 3)), ("diagonal 1 0", Diagonal(1, 0)),
    (f"pick -{TWENTY} {TWENTY}", Pick(-TWENTY, TWENTY)), ("turn -1 -1", Turn([-1, -1])),
    ("stay then stay", Chain([Move(), Move()])), ("turn then turn", Chain([Turn([]), Turn([])])),
    ("pick 0 1 then slice 0 - - 2 then turn 1 0", Chain([Pick(0, 1), Slice(0, step=2), Turn([1, 0])])),
    (" then ".join(["fresh 0"] * 40), Chain([Fresh(0)] * 40)),
]
NO_NUMBER_WORDS = [
    "", "-", "--1", "+1", "-0", "00", "01", "-01", "007", "1.0", "1e3", "0x1", "1_0", " 1", "1 ", "1\n", "\u0663",
    "\u00b2", "a", "x1", "1x", "1-", "None", "True", "1" * 21, "-" + "1" * 21, "0" * 20, "1,0", "1%", "%",
]


class MovesInWordsTest(Case):

    def test_each_there_and_back(self):
        for text, move in EACH:
            words = text.split(" ")
            kept = list(words)
            made = read_move(words)
            self.assertIs(type(move), type(made))
            self.assertEqual(move.told(), made.told())
            self.assertEqual(text, show_move(move))
            self.assertEqual(text, show_move(made))
            self.assertEqual(kept, words)
            words.clear()
            self.assertEqual(move.told(), made.told())

    def test_drawn(self):
        rng = source(35)
        for turn in range(300):
            moves = [draw_move(rng, [3, 1, 4]) for k in range(rng.choice([1, 2, 3, 40]))]
            move = moves[0] if len(moves) == 1 else Chain(moves)
            self.assertEqual(move.told(), read_move(show_move(move).split(" ")).told())

    def test_numbers(self):
        for word, number in [
            ("0", 0), ("7", 7), ("-7", -7), ("10", 10), ("9" * 20, TWENTY), ("-" + "9" * 20, -TWENTY),
            ("1" + "0" * 19, 10 ** 19),
        ]:
            self.assertEqual(("fresh", number), read_move(["fresh", word]).told())
            self.assertEqual(("turn", [number, number]), read_move(["turn", word, word]).told())
            self.assertEqual(("slice", 0, number, number, number), read_move(["slice", "0", word, word, word]).told())

    def test_words_that_write_no_number(self):
        for text, move in EACH[:17]:
            words = text.split(" ")
            for at in range(1, len(words)):
                for word in NO_NUMBER_WORDS + NO_NUMBERS:
                    if isinstance(word, str) and (words[0] == "slice" and at > 1 and word == "-" or word in ("0", "1")):
                        continue
                    self.refuse(NoRow, read_move, words[:at] + [word] + words[at + 1:])
        self.refuse(NoRow, read_move, ["slice", "-", "0", "0", "1"])

    def test_another_number_of_words(self):
        for text, move in EACH[:17]:
            words = text.split(" ")
            if words[0] != "turn":
                self.refuse(NoRow, read_move, words + ["0"])
                if len(words) > 1:
                    self.refuse(NoRow, read_move, words[:-1])
            self.refuse(NoRow, read_move, words + [""])
            self.refuse(NoRow, read_move, [""] + words)
        self.refuse(NoRow, read_move, ["turn"] + ["0"] * 9)

    def test_words_that_are_none(self):
        for word in ["", "Stay", "stay ", "move", "chain", "then", "none", "1", "stays", "stay%", "st\u00e4y", "pick 0 0"]:
            self.refuse(NoRow, read_move, [word])
            self.refuse(NoRow, read_move, [word, "0"])
            self.refuse(NoRow, read_move, ["stay", "then", word])
        for thing in NO_NUMBERS:
            self.refuse(NoRow, read_move, [thing])
            self.refuse(NoRow, read_move, ["stay", thing, "stay"])
            self.refuse(NoRow, read_move, ["stay", "then", thing])

    def test_then_where_it_has_no_place(self):
        for words in [
            ["then"], ["then", "stay"], ["stay", "then"], ["stay", "then", "then", "stay"], ["stay", "stay"],
            ["then", "then"], ["pick", "0", "then", "0"], ["stay", "", "then", "stay"], ["stay", "then", "", "stay"],
            ["stay", "Then", "stay"],
        ]:
            self.refuse(NoRow, read_move, words)

    def test_forty_and_forty_one(self):
        self.assertEqual(40, len(read_move(" then ".join(["stay"] * 40).split(" ")).told()[1]))
        self.refuse(NoRow, read_move, " then ".join(["stay"] * 41).split(" "))

    def test_whatever_else(self):
        for thing in NO_NUMBERS + ["stay", ("stay",), {"stay": 1}, iter(["stay"]), ["stay", 0], [["stay"]], Move(), 5]:
            self.refuse(NoRow, read_move, thing)

    def test_whether_it_fits_is_not_looked_at(self):
        self.assertEqual(("slice", -5, 0, 0, 0), read_move(["slice", "-5", "0", "0", "0"]).told())

    def test_arguments(self):
        self.signed((read_move, "(words)"), (show_move, "(move)"))


if __name__ == "__main__":
    unittest.main()
