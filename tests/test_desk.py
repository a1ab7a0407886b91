import unittest

from pacehall.desk import Desk
from pacehall.errors import Known, NoCount, NoDeed, NoMove, NoName, NoPlace, NoRow, NoShape, NoView, Twice
from pacehall.orders import bars, keeps
from pacehall.rows import run_rows
from pacehall.sharing import is_apart, shares
from pacehall.stores import Store
from tests.helper import NO_NUMBERS, Case
from tests.test_texts import NO_NUMBER_WORDS

# Rows that have all their words as they should be; behind a floor with a view called a of sizes 3 and 2 each is good.
GOOD = [
    "whole b 2 2", "view b a stay", "view b a pick 0 1 then fresh 0", "shape b a 6", "drop a", "names", "plain a",
    "read a", "at a 1 1", "fill a 7", "copy a a", "swap a a", "raise a a", "back", "share a a", "rows a a", "order a a",
]


class DeskCase(Case):

    def setUp(self):
        self.desk = Desk()

    def say(self, wanted, row):
        told = self.desk.say(row)
        self.assertIs(str, type(told))
        self.assertEqual(wanted, told)

    def said(self, *rows):
        for row in rows:
            self.desk.say(row)


class FloorTest(DeskCase):

    def test_once(self):
        self.say("ok", "floor 1 -2 3")
        self.refuse(NoDeed, self.desk.say, "floor 1 -2 3")
        self.refuse(NoDeed, self.desk.say, "floor 5")
        self.said("whole a 3")
        self.say("1 -2 3", "read a")

    def test_how_many(self):
        self.refuse(NoRow, self.desk.say, "floor")
        self.refuse(NoRow, self.desk.say, "floor " + " ".join(["1"] * 4097))
        self.say("ok", "floor " + " ".join(["1"] * 4096))
        self.said("whole a 4096")
        self.say(" ".join(["1"] * 4096), "read a")
        other = Desk()
        self.assertEqual("ok", other.say("floor 0"))

    def test_whatever_other_row_ahead_of_it(self):
        for row in GOOD:
            self.refuse(NoDeed, self.desk.say, row)
        self.say("ok", "floor 1")

    def test_great_values(self):
        self.said("floor 99999999999999999999 -99999999999999999999 0", "whole a 3")
        self.say("99999999999999999999 -99999999999999999999 0", "read a")
        self.refuse(NoRow, Desk().say, "floor 100000000000000000000")

    def test_two_desks_beside_one_another(self):
        other = Desk()
        self.said("floor 1 2 3", "whole a 3")
        self.refuse(NoDeed, other.say, "names")
        self.assertEqual("ok", other.say("floor 7"))
        self.assertEqual("-", other.say("names"))
        self.said("fill a 5")
        self.refuse(NoDeed, other.say, "back")
        self.say("a", "names")
        self.say("5 5 5", "read a")


class NoRowTest(DeskCase):

    def no_row(self, row):
        for desk in [self.desk, Desk()]:
            self.refuse(NoRow, desk.say, row)

    def setUp(self):
        self.desk = Desk()
        self.said("floor 0 1 2 3 4 5", "whole a 3 2")

    def tearDown(self):
        self.say("a", "names")
        self.say("0 1 2 3 4 5", "read a")
        self.refuse(NoDeed, self.desk.say, "back")

    def test_no_text(self):
        for thing in NO_NUMBERS + [["names"], ("names",), b"names", 5]:
            self.no_row(thing)

    def test_no_words_and_blanks_too_many(self):
        for row in ["", " ", "  ", "\n", "\t"]:
            self.no_row(row)
        for row in GOOD + ["floor 1 2"]:
            self.no_row(" " + row)
            self.no_row(row + " ")
            self.no_row(row + "\n")
            self.no_row("\t" + row)
            self.no_row(row + " %")
            if " " in row:
                self.no_row(row.replace(" ", "  ", 1))
                self.no_row(row.replace(" ", "\t", 1))
                self.no_row(row[::-1].replace(" ", "  ", 1)[::-1])

    def test_words_that_begin_nothing(self):
        for row in ["say", "Names", "name", "wholes b 2", "stay", "then", "pick 0 0", "a", "0", "-", "open", "shared", "ok"]:
            self.no_row(row)
            self.no_row(row + " a")

    def test_another_number_of_words(self):
        for row in [
            "whole", "whole b 1 1 1 1 1 1 1 1 1", "view", "view b", "view b a", "shape", "shape b",
            "shape b a 1 1 1 1 1 1 1 1 1", "drop", "drop a a", "names a", "plain", "plain a a", "read", "read a a", "at",
            "at a 0 0 0 0 0 0 0 0 0", "fill", "fill a", "fill a 1 1", "copy", "copy a", "copy a a a", "swap", "swap a",
            "swap a a a", "raise", "raise a", "raise a a a", "back a", "back 1", "share", "share a", "share a a a",
            "share a a 1000", "rows", "rows a", "rows a a a", "order", "order a", "order a a a",
        ]:
            self.no_row(row)
        for row in ["drop a", "names", "plain a", "read a", "fill a 1", "copy a a", "swap a a", "raise a a", "back",
                    "share a a", "rows a a", "order a a"]:
            self.no_row(row + " 5")
            self.no_row(row + " a")

    def test_words_that_write_no_number(self):
        for word in NO_NUMBER_WORDS:
            for row in ["whole b X", "whole b 2 X 2", "shape b a X", "at a X 0", "at a 0 X", "fill a X", "floor X",
                        "floor 1 X 2", "view b a pick X 0", "view b a pick 0 X", "view b a turn 0 X"]:
                self.no_row(row.replace("X", word))

    def test_words_that_write_no_name(self):
        for word in ["", "A", "abcdefghi", "a1", "1", "-", "a-b", "a_", "\u00e4", "a%", "()", "aB", "0"]:
            for row in [
                "whole X 2", "view X a stay", "view b X stay", "shape X a 6", "shape b X 6", "drop X", "plain X", "read X",
                "at X 0 0", "fill X 1", "copy X a", "copy a X", "swap X a", "swap a X", "raise X a", "raise a X",
                "share X a", "share a X", "rows X a", "rows a X", "order X a", "order a X",
            ]:
                self.no_row(row.replace("X", word))

    def test_words_that_write_no_move(self):
        for words in [
            "move", "stay stay", "stay then", "then stay", "pick 0", "slice 0 1 2", "slice - 0 1 2", "turn 0 0 0 0 0 0 0 0 0",
            "chain", "stay then then stay", "stay 0", " then ".join(["stay"] * 41), "fresh", "fresh -", "cut 0 -",
        ]:
            self.no_row("view b a " + words)

    def test_ahead_of_all_else(self):
        for row in ["read b c", "copy x 5", "view a a move", "whole a x", "at x y", "fill x", "floor", "floor x", "drop X"]:
            self.no_row(row)


class RowsTest(DeskCase):

    def setUp(self):
        self.desk = Desk()
        self.said("floor 10 11 12 13 14 15", "whole a 3 2")

    def no_name(self, name, row):
        self.assertEqual(name, self.refuse(NoName, self.desk.say, row).name)

    def test_each_good_row_is_good(self):
        for row in GOOD:
            self.desk = Desk()
            self.said("floor 10 11 12 13 14 15", "whole a 3 2", "fill a 3")
            self.assertIs(str, type(self.desk.say(row)))

    def test_whole(self):
        self.say("ok", "whole b 2 2")
        self.say("10 11 12 13", "read b")
        self.say("ok", "whole abcdefgh")
        self.say("10", "read abcdefgh")
        self.say("ok", "whole c 1 1 1 1 1 1 1 6")
        self.say("a b abcdefgh c", "names")
        for sizes in ["7", "0", "-1", "2 0", "-2 -3", "2 4", "1000000001", "99999999999999999999", "0 0 0 0 0 0 0 0"]:
            self.refuse(NoView, self.desk.say, "whole d " + sizes)
        for sizes in ["2 2", "0", "-1", "99", ""]:
            told = self.refuse(Known, self.desk.say, ("whole a " + sizes).rstrip(" "))
            self.assertEqual("a", told.name)
        self.say("a b abcdefgh c", "names")

    def test_view(self):
        self.say("ok", "view b a turn 1 0")
        self.say("10 12 14 11 13 15", "read b")
        self.say("ok", "view c b slice 1 - - -1 then pick 0 -1")
        self.say("15 13 11", "read c")
        self.say("ok", "view d a stay")
        self.say("a b c d", "names")
        self.assertEqual("a", self.refuse(Known, self.desk.say, "view a x pick 9 9").name)
        self.no_name("x", "view e x pick 9 9")
        self.refuse(NoMove, self.desk.say, "view e a pick 9 9")
        self.refuse(NoMove, self.desk.say, "view e a stay then pick 9 9")
        self.too_many(6 * 4096, self.desk.say, "view e a fresh 0 then spread 0 4096")
        self.say("a b c d", "names")

    def test_shape(self):
        self.say("ok", "shape b a 6")
        self.say("ok", "shape c a 1 2 3")
        self.say("10 11 12 13 14 15", "read c")
        self.said("view t a turn 1 0", "view o a pick 0 0 then pick 0 0")
        self.say("ok", "shape s o")
        self.say("10", "read s")
        told = self.refuse(NoShape, self.desk.say, "shape d t 6")
        self.assertEqual(((3,), 0), (told.place, told.axis))
        for sizes in ["", "5", "2 2", "0", "-6", "-2 -3", "6 0", "12", "99999999999999999999"]:
            self.refuse(NoCount, self.desk.say, ("shape d a " + sizes).rstrip(" "))
        self.assertEqual("a", self.refuse(Known, self.desk.say, "shape a x 5").name)
        self.no_name("x", "shape d x 0")
        self.say("a b c t o s", "names")

    def test_drop_and_names(self):
        self.say("a", "names")
        self.say("ok", "drop a")
        self.say("-", "names")
        self.no_name("a", "drop a")
        self.no_name("a", "read a")
        self.said("whole b", "whole a", "drop b", "whole b")
        self.say("a b", "names")

    def test_plain(self):
        self.say("0 6*1", "plain a")
        self.said("view b a turn 1 0", "view c a slice 0 - - -1", "view d a pick 0 1 then pick 0 1")
        self.said("view e a fresh 0 then spread 0 4")
        self.say("0 2*1 3*2", "plain b")
        self.say("4 3*-2 2*1", "plain c")
        self.say("3", "plain d")
        self.say("0 4*0 6*1", "plain e")
        self.no_name("x", "plain x")

    def test_read(self):
        self.say("10 11 12 13 14 15", "read a")
        self.no_name("x", "read x")

    def test_at(self):
        self.say("13", "at a 1 1")
        self.say("15", "at a 2 1")
        self.said("whole p")
        self.say("10", "at p")
        for place in ["", " 0", " 0 2", " 3 0", " -1 0", " 0 0 0", " 0 99999999999999999999", " 0 0 0 0 0 0 0 0"]:
            self.refuse(NoPlace, self.desk.say, "at a" + place)
        self.refuse(NoPlace, self.desk.say, "at p 0")
        self.no_name("x", "at x 9 9")

    def test_fill_and_back(self):
        self.said("view b a pick 0 0", "view c a pick 0 2")
        self.say("a b", "fill b -5")
        self.say("-", "fill b -5")
        self.say("-5 -5 12 13 14 15", "read a")
        self.say("a c", "fill c 99999999999999999999")
        self.say("a c", "back")
        self.say("-", "back")
        self.say("a b", "back")
        self.say("10 11 12 13 14 15", "read a")
        self.refuse(NoDeed, self.desk.say, "back")
        self.no_name("x", "fill x 1")

    def test_copy_swap_raise(self):
        self.said("view b a pick 0 0", "view c a pick 0 2")
        self.say("a b", "copy b c")
        self.say("14 15 12 13 14 15", "read a")
        self.said("fill b 1")
        self.say("a b c", "swap b c")
        self.say("14 15 12 13 1 1", "read a")
        self.say("a b", "raise b c")
        self.say("15 16 12 13 1 1", "read a")
        self.say("-", "copy b b")
        for word in ["copy", "swap", "raise"]:
            self.no_name("x", word + " x y")
            self.no_name("x", word + " x a")
            self.no_name("y", word + " a y")
            self.refuse(NoCount, self.desk.say, word + " a b")
            self.refuse(NoCount, self.desk.say, word + " b a")
        self.say("15 16 12 13 1 1", "read a")
        self.say("-", "back")
        self.say("a b", "back")

    def test_share(self):
        self.said("view b a pick 0 0", "view c a pick 0 2", "view e a pick 1 0", "view o a pick 1 1", "whole p")
        self.say("apart high", "share b c")
        self.say("apart low", "share c b")
        self.say("apart rest:2", "share e o")
        self.say("shared 0 ()", "share b p")
        self.say("shared () 0,0", "share p a")
        self.say("shared () ()", "share p p")
        for row in ["share x y", "share x a"]:
            self.no_name("x", row)
        self.no_name("y", "share a y")

    def test_share_by_parting(self):
        self.desk = Desk()
        self.said("floor " + " ".join(["0"] * 100), "whole w 100", "view a w slice 0 0 61 30", "view b w slice 0 10 21 -")
        told = self.desk.say("share a b").split(" ")
        self.assertEqual("apart", told[0])
        paper = [tuple(int(part) if part.lstrip("-").isdigit() else part for part in step.split(":")) for step in told[1:]]
        self.assertIn("part", [step[0] for step in paper])
        self.assertTrue(is_apart(self.desk.hall.view("a"), self.desk.hall.view("b"), paper))

    # Windows, each walked by a pace of its own, lay whatever axes: here such that a thousand cases are not enough.
    def test_share_left_open(self):
        self.desk = Desk()
        self.said("floor " + " ".join(["0"] * 4096), "whole w 4096")
        self.said(
            "view a w slice 0 326 - - then window 0 2680 then slice 0 - - 218 then window 1 1640 then slice 1 - - 260"
            " then slice 2 - 1509 377",
            "view b w slice 0 40 - - then window 0 2871 then slice 0 - - 237 then window 1 1627 then slice 1 - - 622"
            " then slice 2 - 876 875",
        )
        one, other = self.desk.hall.view("a"), self.desk.hall.view("b")
        self.assertEqual([(6, 218), (5, 260), (5, 377)], one.axes)
        self.assertEqual([(6, 237), (3, 622), (2, 875)], other.axes)
        self.assertEqual(("open",), shares(one, other, 1000))
        self.say("open", "share a b")

    def test_rows(self):
        self.said("view b a pick 0 0", "view c a pick 0 2", "view r b slice 0 - - -1")
        self.say("-", "rows b b")
        self.assertEqual({"4>0", "5>1"}, set(self.desk.say("rows b c").split(" ")))
        told = self.desk.say("rows b r").split(" ")
        self.assertEqual(3, len(told))
        store = Store([10, 11, 12, 13, 14, 15])
        run_rows(store, [tuple(int(cell) for cell in row.split(">")) for row in told])
        self.assertEqual([11, 10, 12, 13, 14, 15], store.all_values())
        self.refuse(NoCount, self.desk.say, "rows a b")
        for row in ["rows x y", "rows x a"]:
            self.no_name("x", row)
        self.no_name("y", "rows a y")

    def test_order(self):
        self.said(
            "view u a slice 0 1 - -", "view d a slice 0 - 2 -", "view r a slice 0 - - -1", "whole p", "whole q",
            "view s a pick 0 0 then fresh 0 then spread 0 3",
        )
        told = self.desk.say("order u d").split(" ")
        self.assertEqual(("loops", 2), (told[0], len(told[1:])))
        self.assertIn("0-", told)
        order = [(int(loop[:-1]), 1 if loop[-1] == "+" else -1) for loop in told[1:]]
        self.assertTrue(keeps(self.desk.hall.view("u"), self.desk.hall.view("d"), order))
        self.assertIn("0+", self.desk.say("order d u").split(" "))
        self.say("loops", "order p q")
        told = self.desk.say("order a r").split(" ")
        self.assertEqual("none", told[0])
        some = [
            tuple(tuple(int(number) for number in place.split(",")) for place in pair.split("/")) for pair in told[1:]
        ]
        self.assertTrue(bars(self.desk.hall.view("a"), self.desk.hall.view("r"), some))
        self.refuse(NoCount, self.desk.say, "order a u")
        told = self.refuse(Twice, self.desk.say, "order s a")
        view = self.desk.hall.view("s")
        self.assertEqual(view.cell(told.one), view.cell(told.other))
        for row in ["order x y", "order x a"]:
            self.no_name("x", row)
        self.no_name("y", "order a y")

    def test_what_is_refused_changes_nothing(self):
        self.said("view b a pick 0 0", "fill b 7")
        for row in ["floor 1", "whole a 2", "whole c 9", "view b a stay", "view c x stay", "shape c a 5", "drop x",
                    "copy a b", "fill x 1", "swap b a", "raise a b", "at a 9 9", "rows a b", "order a b", "no row"]:
            with self.assertRaises(ValueError):
                self.desk.say(row)
        self.say("a b", "names")
        self.say("7 7 12 13 14 15", "read a")
        self.say("a b", "back")
        self.refuse(NoDeed, self.desk.say, "back")

    def test_arguments(self):
        self.signed((Desk, "()"), (Desk.say, "(self, row)"))


if __name__ == "__main__":
    unittest.main()
