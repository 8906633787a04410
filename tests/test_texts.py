"""Point 13, and points 1, 2 and 6 for it."""

import unittest
from itertools import permutations

from seedreach import texts
from seedreach.errors import BadRow, BadSeed, BadText, NoPlace, NoRow, ReachError, TooLow
from seedreach.pairs import pairs
from seedreach.seeds import bar
from seedreach.shelf import Shelf
from seedreach.texts import read, written
from tests.plain import shelf_of

SEVEN = ("abcabc", "", "cab", "a", "bbabcacb", "c" * 60, "acbacbacba")
SHELVES = (([], ["#"], (1, 9), "ab"), ([""], ["##"], (1, 1), "abc"), (["", ""], ["##", "##"], (1, 1), "ba"),
           (["abc", "cab"], ["##", "#-#"], (2, 3), "cba"), (SEVEN, ["########", "#-#", "##"], (9, 9), "abc"),
           (["zyx", "", "uvw"], ["#------#"], (9, 1), "zuyvxw"), (SEVEN, ["##-#", "##-#", "#-##"], (1, 5), "fcdbea"))
GOOD = "letters abc\nscale 2 3\nseeds ## #-#\nrow abca\nrow \nrow cc"
# Blanks and line ends of other kinds.
OTHER_BLANKS = ("\t", "\u00a0", "\u2003", "\u3000", "\v", "\f", "\x1c", "_", "  ")
OTHER_ENDS = ("\r\n", "\r", "\u2028", "\u2029", "\x85", "\v", "\f", "\x1c", "\n\n", "\n\r", " ", "")


class Written(unittest.TestCase):
    def test_no_rows(self):
        self.assertEqual(written(Shelf("ab", (1, 9), ["#"])), "letters ab\nscale 1 9\nseeds #")

    def test_one_row(self):
        self.assertEqual(written(shelf_of(["cab"], ["##"], (2, 3))), "letters abc\nscale 2 3\nseeds ##\nrow cab")

    def test_an_empty_row(self):
        self.assertEqual(written(shelf_of([""], ["##"])), "letters abc\nscale 1 1\nseeds ##\nrow ")
        self.assertEqual(written(shelf_of(["", "a", ""], ["##"])),
                         "letters abc\nscale 1 1\nseeds ##\nrow \nrow a\nrow ")

    def test_seven_rows(self):
        self.assertEqual(written(shelf_of(SEVEN, ["#-#"], (9, 9))), "letters abc\nscale 9 9\nseeds #-#\nrow abcabc\n"
                         "row \nrow cab\nrow a\nrow bbabcacb\nrow " + "c" * 60 + "\nrow acbacbacba")

    def test_one_two_and_three_seeds(self):
        for seeds, line in ((["#"], "seeds #"), (["#-#", "##"], "seeds #-# ##"), (["##", "##"], "seeds ## ##"),
                            (["########", "#", "#------#"], "seeds ######## # #------#"),
                            (["##", "#-#", "##"], "seeds ## #-# ##")):
            self.assertEqual(written(shelf_of(["ab"], seeds)), "letters abc\nscale 1 1\n" + line + "\nrow ab")

    def test_every_scale(self):
        for gain in range(1, 10):
            for loss in range(1, 10):
                self.assertEqual(written(shelf_of([], ["##"], (gain, loss))),
                                 f"letters abc\nscale {gain} {loss}\nseeds ##")

    def test_letters_as_they_were_handed_in(self):
        for letters in ("ab", "ba", "zxyabc", "fedcba"):
            self.assertEqual(written(Shelf(letters, (1, 1), ["##"])), f"letters {letters}\nscale 1 1\nseeds ##")

    def test_behind_some_deeds(self):
        shelf = shelf_of(["abca", "b"], ["##", "#-#"], (2, 3))
        head = "letters abc\nscale 2 3\nseeds ## #-#\n"
        shelf.change(0, 1, "c")
        self.assertEqual(written(shelf), head + "row acca\nrow b")
        shelf.put(0, 4, "b")
        self.assertEqual(written(shelf), head + "row accab\nrow b")
        shelf.cut(1, 0)
        self.assertEqual(written(shelf), head + "row accab\nrow ")
        shelf.lay("ab")
        self.assertEqual(written(shelf), head + "row accab\nrow \nrow ab")

    def test_asked_again(self):
        for rows, seeds, scale, letters in SHELVES:
            shelf = shelf_of(rows, seeds, scale, letters)
            before = (shelf.rows(), shelf.windows())
            first = written(shelf)
            self.assertIs(first.__class__, str)
            self.assertEqual([written(shelf), written(shelf)], [first, first])
            self.assertEqual((shelf.rows(), shelf.windows()), before)

    def test_the_seeds_handed_in_are_changed(self):
        seeds = ["##", "#-#"]
        shelf = shelf_of(["ab"], seeds)
        seeds[0] = "#"
        seeds.pop()
        self.assertEqual(written(shelf), "letters abc\nscale 1 1\nseeds ## #-#\nrow ab")


class Read(unittest.TestCase):
    def check_alike(self, shelf, other, seeds, scale):
        """Both shelves answer alike."""
        self.assertIs(other.__class__, Shelf)
        self.assertEqual(written(other), written(shelf))
        self.assertEqual((other.rows(), other.windows()), (shelf.rows(), shelf.windows()))
        limit = bar(seeds, scale)
        for row in shelf.rows() + [""]:
            if limit[0] == "bar":
                for told in (limit[1] + 1, limit[1] + 4):
                    self.assertEqual(other.find(row, told), shelf.find(row, told))
                    self.assertEqual(pairs(other, told), pairs(shelf, told))
            with self.assertRaises(TooLow) as caught:
                other.find(row, 0)
            self.assertEqual(caught.exception.bar, limit)

    def test_what_is_written_is_read_to_a_shelf_with_the_same(self):
        for rows, seeds, scale, letters in SHELVES:
            shelf = shelf_of(rows, seeds, scale, letters)
            self.check_alike(shelf, read(written(shelf)), seeds, scale)

    def test_every_scale(self):
        for gain in range(1, 10):
            for loss in range(1, 10):
                shelf = shelf_of(["abcab", "cabb"], ["##", "#-#"], (gain, loss))
                self.check_alike(shelf, read(written(shelf)), ["##", "#-#"], (gain, loss))

    def test_a_text(self):
        shelf = read(GOOD)
        self.assertEqual(shelf.rows(), ["abca", "", "cc"])
        self.check_alike(shelf_of(["abca", "", "cc"], ["##", "#-#"], (2, 3)), shelf, ["##", "#-#"], (2, 3))
        self.assertEqual(written(shelf), GOOD)
        self.assertEqual(shelf.lay("ab"), 3)

    def test_behind_some_deeds(self):
        shelf = shelf_of(["abca", "b"], ["##", "#-#"], (1, 2))
        for deed in (lambda: shelf.change(0, 1, "c"), lambda: shelf.put(0, 4, "b"), lambda: shelf.cut(1, 0)):
            deed()
            self.check_alike(shelf, read(written(shelf)), ["##", "#-#"], (1, 2))

    def test_it_is_another_shelf(self):
        shelf = shelf_of(["abca", "b"], ["##", "#-#"], (1, 2))
        text = written(shelf)
        other = read(text)
        self.assertIsNot(other, shelf)
        other.change(0, 1, "c")
        other.lay("ccc")
        self.assertEqual((written(shelf), shelf.rows()), (text, ["abca", "b"]))
        self.assertEqual(shelf.windows(), shelf_of(["abca", "b"], ["##", "#-#"]).windows())
        changed = written(other)
        shelf.cut(0, 0)
        shelf.put(1, 0, "a")
        shelf.lay("")
        self.assertEqual((written(other), other.rows()), (changed, ["acca", "b", "ccc"]))
        self.assertEqual(shelf.rows(), ["bca", "ab", ""])

    def test_read_again(self):
        one, other = read(GOOD), read(GOOD)
        one.cut(0, 0)
        one.lay("b")
        self.assertEqual((one.rows(), other.rows(), read(GOOD).rows()),
                         (["bca", "", "cc", "b"], ["abca", "", "cc"], ["abca", "", "cc"]))

    def test_rows_beyond_seven_as_they_can_be_laid(self):
        shelf = shelf_of(SEVEN + ("ab", "ba"), ["##"])
        self.check_alike(shelf, read(written(shelf)), ["##"], (1, 1))

    def test_each_is_defined_under_texts(self):
        for told in (written, read):
            self.assertEqual(told.__module__, "seedreach.texts")
            self.assertIs(getattr(texts, told.__name__), told)


class Refused(unittest.TestCase):
    def check_refused(self, *wrong):
        """Each of the texts is refused with BadText."""
        for text in wrong:
            with self.subTest(text):
                with self.assertRaises(BadText) as caught:
                    read(text)
                self.assertIs(caught.exception.__class__, BadText)
                self.assertIsInstance(caught.exception, ReachError)
                self.assertIsInstance(caught.exception, ValueError)
                self.assertNotIsInstance(caught.exception, (BadRow, BadSeed, NoRow, NoPlace, TooLow))

    def check_line(self, good, *wrong):
        """The good text is read, and refused with the line changed with each of the wrong ones."""
        self.assertEqual(written(read(GOOD)), GOOD)
        self.assertEqual(GOOD.split("\n").count(good), 1)
        self.check_refused(*["\n".join([other if line == good else line for line in GOOD.split("\n")])
                             for other in wrong])

    def test_no_text(self):
        self.check_refused("", " ", "\n", "\n\n", "\n\n\n", "letters", "row ", "abc")

    def test_line_ends_in_front_behind_and_twice(self):
        self.check_refused("\n" + GOOD, GOOD + "\n", GOOD + "\n\n", "\n" + GOOD + "\n")
        for at, sign in enumerate(GOOD):
            if sign == "\n":
                self.check_refused(GOOD[:at] + "\n" + GOOD[at:])

    def test_rows_of_the_head_left_out_and_doubled(self):
        lines = GOOD.split("\n")
        for at in range(3):
            self.check_refused("\n".join(lines[:at] + lines[at + 1:]))
            self.check_refused("\n".join(lines[:at] + [lines[at]] + lines[at:]))
            self.check_refused("\n".join(lines + [lines[at]]))
            self.check_refused("\n".join(lines[:at]), lines[at])
            self.check_refused("\n".join(lines[:at] + ["row a"] + lines[at:]))

    def test_rows_of_the_text_in_another_order(self):
        lines = ["letters abc", "scale 2 3", "seeds ## #-#", "row abca"]
        self.assertEqual(written(read("\n".join(lines))), "\n".join(lines))
        for order in permutations(lines):
            if list(order) != lines:
                self.check_refused("\n".join(order))

    def test_other_words(self):
        self.check_line("letters abc", "letter abc", "Letters abc", "LETTERS abc", "lettersabc", "abc", "letterss abc",
                        "scale abc", "row abc", "letters: abc", "")
        self.check_line("scale 2 3", "scales 2 3", "Scale 2 3", "seeds 2 3", "2 3", "scale2 3", "scal 2 3")
        self.check_line("seeds ## #-#", "seed ## #-#", "Seeds ## #-#", "## #-#", "seeds## #-#", "row ## #-#")
        self.check_line("row abca", "rows abca", "Row abca", "abca", "rowabca", "letters abca", "ro abca", "row: abca")
        self.check_line("row ", "row", "", " ", "rows ", "ROW ", "ro ")

    def test_two_blanks_and_blanks_in_front_and_behind(self):
        for good in GOOD.split("\n"):
            self.check_line(good, " " + good, good + " ", "  " + good, good + "  ")
            for at, sign in enumerate(good):
                if sign == " ":
                    self.check_line(good, good[:at] + " " + good[at:])
        self.check_refused(" " + GOOD, GOOD + " ")

    def test_none_behind_row_where_the_row_is_empty(self):
        for text in ("letters ab\nscale 1 1\nseeds #\nrow", "letters ab\nscale 1 1\nseeds #\nrow\nrow a",
                     "letters ab\nscale 1 1\nseeds #\nrow a\nrow", "letters ab\nscale 1 1\nseeds #\n"):
            self.check_refused(text)

    def test_letters_that_are_none(self):
        self.check_line("letters abc", "letters", "letters ", "letters a", "letters aa", "letters abca",
                        "letters abcdefg", "letters aBc", "letters ab1c", "letters a-bc", "letters abc def",
                        "letters a b c", "letters abc\u00e4", "letters ab\u0441", "letters abc#")

    def test_scales_that_are_none(self):
        self.check_line("scale 2 3", "scale", "scale ", "scale 2", "scale 2 ", "scale  3", "scale 2 3 1", "scale 2 3 ",
                        "scale 0 3", "scale 2 0", "scale 10 3", "scale 2 10", "scale -1 3", "scale 2 -3", "scale 23",
                        "scale a 3", "scale 2 b", "scale 2,3", "scale (2, 3)", "scale 1" + "0" * 30 + " 3",
                        "scale 2 " + "9" * 5000)

    def test_numbers_written_in_other_ways(self):
        for number in ("+2", "-2", "02", "002", "2_", "_2", "0_2", "2.0", "2e0", "0x2", "2l", "\u0662", "\u0968",
                       "\uff12", "\u00b2", "\u2461", "\U0001d7d0", "two", "ii", "1+1", "'2'", "\t2", "2\r", "\u00a02"):
            self.check_line("scale 2 3", "scale " + number + " 3", "scale 3 " + number)

    def test_seeds_that_are_none(self):
        self.check_line("seeds ## #-#", "seeds", "seeds ", "seeds # # # #", "seeds ## #-# # ##", "seeds #########",
                        "seeds ## #-------#", "seeds #-", "seeds -#", "seeds -", "seeds ## -#-", "seeds #a#",
                        "seeds ## #=#", "seeds ##,#-#", "seeds ## \u0023\u2013#", "seeds \uff03")

    def test_rows_that_are_none(self):
        self.check_line("row abca", "row d", "row abcd", "row A", "row a b", "row " + "a" * 61, "row abca row cc",
                        "row a-b", "row #", "row abc\u00e4", "row 1", "row " + "abc" * 1000)
        self.assertEqual(read(GOOD.replace("row abca", "row " + "a" * 60)).rows(), ["a" * 60, "", "cc"])

    def test_letters_seeds_and_rows_of_another_shelf(self):
        self.check_refused("letters ab\nscale 2 3\nseeds ## #-#\nrow abca")
        self.check_refused("letters abd\nscale 2 3\nseeds ## #-#\nrow abca\nrow")

    def test_other_kinds_of_line_ends(self):
        for end in OTHER_ENDS:
            self.check_refused(GOOD.replace("\n", end))
            for at, sign in enumerate(GOOD):
                if sign == "\n":
                    self.check_refused(GOOD[:at] + end + GOOD[at + 1:])
            if end:
                self.check_refused(end + GOOD, GOOD + end)

    def test_other_kinds_of_blanks(self):
        for blank in OTHER_BLANKS:
            self.check_refused(blank + GOOD, GOOD + blank)
            for at, sign in enumerate(GOOD):
                if sign == " ":
                    self.check_refused(GOOD[:at] + blank + GOOD[at + 1:])

    def test_each_sign_left_out_or_put_in(self):
        # Whatever is read all the same is written just so.
        kept = 0
        for at in range(len(GOOD) + 1):
            for text in [GOOD[:at] + GOOD[at + 1:]] + [GOOD[:at] + sign + GOOD[at:] for sign in " \n\tab#-0A1"]:
                try:
                    shelf = read(text)
                except BadText:
                    continue
                self.assertEqual(written(shelf), text)
                kept += 1
        self.assertGreater(kept, 10)


if __name__ == "__main__":
    unittest.main()
