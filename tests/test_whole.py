"""What the document promises over the whole program: points 1, 2, 6, 8, 9, 10, 11 and 12, and the interface."""

import importlib
import inspect
import unittest

from seedreach.errors import BadRow, BadSeed, BadText, NoPlace, NoRow, ReachError, TooLow
from seedreach.pairs import pairs
from seedreach.papers import lane
from seedreach.rows import need_letters, need_row, need_scale
from seedreach.seeds import bar, need_seeds
from seedreach.shelf import Shelf
from seedreach.showing import shows
from seedreach.texts import read, written
from tests.plain import Named, do, plain_counts, plain_find, plain_three, plain_windows, shelf_of

FAR = 10 ** 30
SIX = (BadRow, BadSeed, NoRow, NoPlace, TooLow, BadText)
GOOD_LETTERS = ("ab", "zy", "abcdef", "qwerty")
BAD_LETTERS = ("", "a", "abcdefg", "abcdefgh", "aa", "abca", "aB", "a1", "a b", "ab\n", "\u00e4b", "a-")
GOOD_SCALES = ((1, 1), (9, 9), (1, 9), (9, 1))
BAD_SCALES = ((0, 1), (1, 0), (0, 0), (10, 1), (1, 10), (-1, 1), (1, -1), (-9, -9), (FAR, 1), (1, FAR), (-FAR, 1))
GOOD_ROWS = ("", "a", "cba", "abc" * 20, "c" * 60)
BAD_ROWS = ("a" * 61, "abc" * 21, "a" * 1000, "d", "abd", "A", "a b", "abc\n", "#", "a" * 59 + "z")
GOOD_SEEDS = (["#"], ["########"], ["#------#"], ["##", "##"], ["#", "#-#", "##-#-###"])
BAD_SEEDS = ([], ["#"] * 4, ["##", "#", "#-#", "##"], [""], ["##", ""], ["#########"], ["#-------#"], ["-#"], ["#-"],
             ["-"], ["##", "-##"], ["##", "##-", "#"], ["#=#"], ["#a#"], ["# #"], ["##", "#", "#_#"])
BARRED = ((["##"], (1, 1)), (["#-#"], (2, 3)), (["###"], (1, 2)), (["#"], (3, 2)), (["##", "#-#"], (1, 1)),
          (["##-#", "#-##"], (1, 2)), (["#---#", "###", "#----#"], (7, 5)), (["########", "#-#"], (1, 1)),
          (["####", "#-#", "####"], (2, 9)))
ENDLESS = ((["##"], (2, 1)), (["#-#"], (4, 3)), (["###"], (2, 3)), (["########", "#------#"], (9, 1)))
# The interface: each file with what is defined in it and the arguments.
LISTED = {
    "rows": {"need_letters": "letters", "need_row": "row letters", "need_scale": "scale"},
    "worths": {"likes_of": "one other shift", "worth_of": "likes scale", "ripe": "likes scale",
               "reaches": "one other scale told"},
    "seeds": {"need_seeds": "seeds", "fits": "seed likes place", "is_seeded": "seeds likes", "bar": "seeds scale"},
    "papers": {"lane": "one other shift seeds scale told"},
    "showing": {"shows": "one other shift seeds scale told paper"},
    "pairs": {"bound": "one other scale", "pairs": "shelf told"},
    "texts": {"written": "shelf", "read": "text"},
}
METHODS = {"__init__": "letters scale seeds", "lay": "row", "rows": "", "windows": "", "find": "row told",
           "change": "number place sign", "put": "number place sign", "cut": "number place"}


class Refusals(unittest.TestCase):
    def check_refused(self, error, asked, *told):
        """It is refused with that error, a ReachError, a ValueError, and none of the other ones."""
        with self.subTest((asked, told)):
            with self.assertRaises(ReachError) as caught:
                asked(*told)
            self.assertIsInstance(caught.exception, ValueError)
            self.assertEqual([kind for kind in SIX if isinstance(caught.exception, kind)], [error])

    def test_letters(self):
        for letters in GOOD_LETTERS:
            self.assertIsNone(need_letters(letters))
            self.assertEqual(Shelf(letters, (1, 1), ["#"]).rows(), [])
        for letters in BAD_LETTERS:
            self.check_refused(BadRow, need_letters, letters)
            self.check_refused(BadRow, Shelf, letters, (1, 1), ["#"])
            self.check_refused(BadRow, Shelf, letters, (1, 1), [])

    def test_scales(self):
        for scale in GOOD_SCALES:
            self.assertIsNone(need_scale(scale))
            self.assertEqual(Shelf("ab", scale, ["#"]).rows(), [])
        for scale in BAD_SCALES:
            self.check_refused(BadRow, need_scale, scale)
            self.check_refused(BadRow, Shelf, "ab", scale, ["#"])
            self.check_refused(BadRow, Shelf, "ab", scale, ["-"])

    def test_rows(self):
        shelf = Shelf("abc", (1, 1), ["##"])
        for number, row in enumerate(GOOD_ROWS):
            self.assertIsNone(need_row(row, "abc"))
            self.assertEqual(shelf.lay(row), number)
            self.assertIs(shelf.find(row, 2).__class__, list)
        before = (shelf.rows(), shelf.windows())
        for row in BAD_ROWS:
            self.check_refused(BadRow, need_row, row, "abc")
            self.check_refused(BadRow, shelf.lay, row)
            for told in (2, 1, -FAR, FAR):
                self.check_refused(BadRow, shelf.find, row, told)
        self.assertEqual((shelf.rows(), shelf.windows()), before)

    def test_seeds(self):
        for seeds in GOOD_SEEDS:
            self.assertIsNone(need_seeds(seeds))
            self.assertEqual(Shelf("ab", (1, 9), seeds).rows(), [])
            limit = bar(seeds, (1, 9))[1]
            self.assertEqual(lane("", "", 0, seeds, (1, 9), limit + 1), ("unseeded", []))
            self.assertIs(shows("", "", 0, seeds, (1, 9), limit + 1, ("unseeded", [])), True)
        for seeds in BAD_SEEDS:
            self.check_refused(BadSeed, need_seeds, seeds)
            self.check_refused(BadSeed, Shelf, "ab", (1, 9), seeds)
            for told in (100, 1, -FAR):
                self.check_refused(BadSeed, lane, "abc", "abc", 0, seeds, (1, 9), told)
                self.check_refused(BadSeed, shows, "abc", "abc", 0, seeds, (1, 9), told, ("low", 3))

    def test_deeds(self):
        shelf = shelf_of(["abc", "", "c" * 60], ["##"])
        for number in (-1, 3, FAR, -FAR):
            self.check_refused(NoRow, shelf.change, number, 0, "a")
            self.check_refused(NoRow, shelf.put, number, 0, "a")
            self.check_refused(NoRow, shelf.cut, number, 0)
        for number, place in ((0, -1), (0, 3), (1, 0), (2, 60), (0, FAR)):
            self.check_refused(NoPlace, shelf.change, number, place, "d")
            self.check_refused(NoPlace, shelf.cut, number, place)
            self.check_refused(NoPlace, shelf.put, number, place if place < 0 else place + 1, "d")
        for sign in ("", "ab", "d", "A", "-"):
            self.check_refused(BadRow, shelf.change, 0, 0, sign)
            self.check_refused(BadRow, shelf.put, 0, 3, sign)
        self.check_refused(BadRow, shelf.put, 2, 60, "a")

    def test_too_low(self):
        for seeds, scale in BARRED + ENDLESS:
            limit = bar(seeds, scale)
            told_ones = range(1, limit[1] + 1) if limit[0] == "bar" else (1, 2, 540, FAR)
            shelf = shelf_of(["abcab", "", "bca"], seeds, scale)
            asked = (lambda told: shelf.find("abc", told), lambda told: pairs(shelf, told),
                     lambda told: pairs(Shelf("ab", scale, seeds), told),
                     lambda told: lane("abc", "abc", 0, seeds, scale, told),
                     lambda told: shows("abc", "abc", 0, seeds, scale, told, ("low", 3)),
                     # Also where the paper is false.
                     lambda told: shows("abc", "abc", 0, seeds, scale, told, ("unseeded", [9, 9])),
                     lambda told: shows("", "", 0, seeds, scale, told, ("reaches", [])))
            for ask in asked:
                for told in told_ones:
                    self.check_refused(TooLow, ask, told)
                    with self.assertRaises(TooLow) as caught:
                        ask(told)
                    self.assertEqual(caught.exception.bar, limit)
                if limit[0] == "bar":
                    ask(limit[1] + 1)

    def test_texts(self):
        for letters, scale, seeds, row in (("a", "1 1", "#", ""), ("ab", "0 1", "#", ""), ("ab", "1 1", "-", ""),
                                           ("ab", "1 1", "#", "c"), ("ab", "1 1", "#", "a" * 61)):
            self.check_refused(BadText, read, f"letters {letters}\nscale {scale}\nseeds {seeds}\nrow {row}")
        self.assertEqual(read("letters ab\nscale 1 1\nseeds #\nrow " + "a" * 60).rows(), ["a" * 60])


class Drawn:
    """Numbers that look drawn, and are the same ones each time."""

    def __init__(self, first):
        self.last = first

    def below(self, many):
        """A number from 0 on, less than many."""
        self.last = (self.last * 1103515245 + 12345) & 0x7fffffff
        return (self.last >> 8) % many


class Deeds(unittest.TestCase):
    def check_anew(self, shelf, seeds, scale):
        """Rows, windows, find and pairs are as on a shelf on which the rows were laid anew."""
        rows = shelf.rows()
        anew = shelf_of(rows, seeds, scale)
        self.assertEqual(rows, anew.rows())
        self.assertEqual(shelf.windows(), anew.windows())
        self.assertEqual(shelf.windows(), plain_windows(rows, seeds))
        told = bar(seeds, scale)[1] + 1
        for row in ("abcabc", "ccb", rows[0]):
            self.assertEqual(shelf.find(row, told), anew.find(row, told))
        self.assertEqual(pairs(shelf, told), pairs(anew, told))
        self.assertEqual(written(shelf), written(anew))

    def draw_deed(self, drawn, named):
        """A deed, a row's number, a place and a sign, such as the rows let be done."""
        number = drawn.below(len(named))
        many = len(named[number].signs)
        deed = ("change", "put", "cut")[drawn.below(3)]
        if many == 0:
            deed = "put"
        elif many == 60 and deed == "put":
            deed = "cut"
        # Now and then at an end.
        last = many if deed == "put" else many - 1
        place = (0, last, drawn.below(last + 1), drawn.below(last + 1))[drawn.below(4)]
        return deed, number, place, "abc"[drawn.below(3)]

    def test_eight_by_turns(self):
        drawn = Drawn(8)
        shelves = (["abcab", "", "bcacbab", "ca"], ["abc" * 20, ""], ["a"], ["cab" * 20, "b" * 59, "abcc", "ccabab"],
                   ["", "ab", "abca"])
        done = {}
        for seeds, scale in BARRED:
            for rows in shelves:
                shelf = shelf_of(rows, seeds, scale)
                named = [Named(row) for row in rows]
                for _ in range(8):
                    self.check_anew(shelf, seeds, scale)
                    deed, number, place, sign = self.draw_deed(drawn, named)
                    before = named[number].do(deed, place, sign)
                    self.assertEqual(do(shelf, deed, number, place, sign),
                                     plain_counts(before, named[number].names, seeds),
                                     (seeds, rows, deed, number, place))
                    self.assertEqual(shelf.rows(), ["".join(row.signs) for row in named])
                    done[deed] = done.get(deed, 0) + 1
                self.check_anew(shelf, seeds, scale)
        self.assertGreater(min(done[deed] for deed in ("change", "put", "cut")), 50)

    def test_behind_deeds_against_a_plain_walk(self):
        for seeds, scale in BARRED:
            told = bar(seeds, scale)[1] + 1
            shelf = shelf_of(["abcab", "", "bcacb", "cabb"], seeds, scale)
            for deed, number, place, sign in (("put", 1, 0, "a"), ("change", 2, 4, "a"), ("cut", 0, 2, ""),
                                              ("put", 1, 1, "b"), ("put", 3, 2, "c"), ("cut", 2, 0, ""),
                                              ("change", 0, 0, "c"), ("put", 0, 4, "a")):
                pairs(shelf, told)
                do(shelf, deed, number, place, sign)
                self.assertEqual(pairs(shelf, told), plain_three(shelf.rows(), scale, told))
                self.assertEqual(shelf.find("cabca", told), plain_find(shelf.rows(), "cabca", scale, told))

    def test_refused_deeds_change_nothing(self):
        shelf = shelf_of(["abcab", "c" * 60, ""], ["##"])
        before = (shelf.rows(), shelf.windows(), shelf.find("abc", 2), pairs(shelf, 2), written(shelf))
        for deed, told in (("cut", (3, 0)), ("cut", (2, 0)), ("put", (1, 60, "a")), ("put", (0, 6, "a")),
                           ("change", (0, 5, "a")), ("change", (0, 0, "d")), ("put", (0, 0, "ab"))):
            self.assertRaises(ReachError, getattr(shelf, deed), *told)
            self.assertEqual((shelf.rows(), shelf.windows(), shelf.find("abc", 2), pairs(shelf, 2), written(shelf)),
                             before)


class AskedAgain(unittest.TestCase):
    def answers(self, shelf, seeds):
        """What is told, all of it, as lists of its own."""
        return (shelf.rows(), shelf.windows(), shelf.find("cabca", 2), *pairs(shelf, 2),
                lane("abcd", "abcd", 0, seeds, (1, 1), 2)[1], lane("abcd", "axxd", 0, seeds, (1, 1), 2)[1])

    def test_what_is_given_back_is_changed(self):
        shelf = shelf_of(["abcab", "cabb", "acb", "", "c"], ["##"])
        first = self.answers(shelf, ["##"])
        kept = [list(part) for part in first]
        self.assertGreater(min(len(part) for part in first), 0)
        for part in first:
            part.append(part[0])
            part[0] = None
        self.assertEqual(list(self.answers(shelf, ["##"])), kept)
        for part in first:
            part.clear()
        self.assertEqual(list(self.answers(shelf, ["##"])), kept)
        self.assertEqual(read(written(shelf)).rows(), kept[0])

    def test_the_seeds_handed_in_are_changed(self):
        seeds = ["##", "#-#"]
        shelf = shelf_of(["abcab", "cabb", "acb", ""], seeds)
        first = (shelf.windows(), shelf.find("cabca", 2), pairs(shelf, 2), written(shelf))
        for changed in (["#"], ["########"], [], ["a"], ["##", "#-#", "#"]):
            seeds[:] = changed
            self.assertEqual((shelf.windows(), shelf.find("cabca", 2), pairs(shelf, 2), written(shelf)), first)
            with self.assertRaises(TooLow) as caught:
                pairs(shelf, 1)
            self.assertEqual(caught.exception.bar, bar(["##", "#-#"], (1, 1)))

    def test_seeds_stay_as_they_were_handed_in(self):
        seeds = ["##", "#-#"]
        shelf = shelf_of(["abcab", "cabb"], seeds)
        self.answers(shelf, seeds)
        shelf.cut(0, 0)
        shelf.lay("abc")
        shows("abc", "abc", 0, seeds, (1, 1), 2, ("reaches", [(0, 0, 3)]))
        self.assertRaises(TooLow, pairs, shelf, 1)
        self.assertEqual(seeds, ["##", "#-#"])


class Interface(unittest.TestCase):
    def arguments(self, asked):
        """The names of its arguments, all of them told by place or by name."""
        told = inspect.signature(asked).parameters.values()
        self.assertEqual({one.kind for one in told} - {inspect.Parameter.POSITIONAL_OR_KEYWORD}, set())
        return [one.name for one in told]

    def test_each_function_is_defined_where_it_is_listed(self):
        for file, functions in LISTED.items():
            module = importlib.import_module("seedreach." + file)
            for name, names in functions.items():
                asked = getattr(module, name)
                self.assertEqual((asked.__module__, asked.__name__), ("seedreach." + file, name))
                self.assertEqual(self.arguments(asked), names.split())

    def test_each_method_is_defined_in_its_class(self):
        self.assertEqual(Shelf.__module__, "seedreach.shelf")
        for name, names in METHODS.items():
            self.assertIn(name, vars(Shelf))
            self.assertEqual(self.arguments(vars(Shelf)[name]), ["self"] + names.split())

    def test_each_error_stands_straight_under_reach_error(self):
        self.assertEqual(ReachError.__bases__, (ValueError,))
        for kind in SIX:
            self.assertEqual((kind.__bases__, kind.__module__), ((ReachError,), "seedreach.errors"))


if __name__ == "__main__":
    unittest.main()
