"""Points 8, 9 and 10, and points 1 and 5 where they bear on the shelf."""

import unittest
from itertools import product
from unittest import mock

from seedreach import shelf as module
from seedreach.errors import BadRow, BadSeed, NoPlace, NoRow, ReachError, TooLow
from seedreach.seeds import bar
from seedreach.shelf import Shelf
from seedreach.worths import reaches
from tests.plain import (Named, all_texts, do, plain_counts, plain_find, plain_likes, plain_pairs, plain_reaches,
                         plain_seeded, plain_windows, shelf_of)

FAR = 10 ** 30
SEVEN = ("abcabc", "", "cab", "a", "bbabcacb", "ccccc", "acbacbacba")
# Seeds and scales that have a bar.
BARRED = ((["##"], (1, 1)), (["##"], (2, 3)), (["#-#"], (1, 1)), (["###"], (1, 2)), (["#"], (3, 2)),
          (["##", "#-#"], (1, 1)), (["##-#", "#-##"], (1, 2)), (["#-#", "##", "#-#"], (2, 5)), (["#--#"], (1, 3)),
          (["########", "#-#"], (1, 1)), (["#---#", "###", "#----#"], (7, 5)))


class Made(unittest.TestCase):
    def test_good_ones(self):
        for letters, scale, seeds in (("ab", (1, 1), ["#"]), ("abcdef", (9, 9), ["########", "#------#", "#"]),
                                      ("zy", (9, 1), ["##", "##"])):
            shelf = Shelf(letters, scale, seeds)
            self.assertEqual((shelf.rows(), shelf.windows()), ([], []))

    def test_letters_and_scales_that_are_none(self):
        for letters in ("", "a", "abcdefg", "aa", "aB", "a1"):
            with self.subTest(letters), self.assertRaises(BadRow):
                Shelf(letters, (1, 1), ["#"])
        for scale in ((0, 1), (1, 0), (10, 1), (1, 10), (-1, 1)):
            with self.subTest(scale), self.assertRaises(BadRow):
                Shelf("ab", scale, ["#"])

    def test_seeds_that_are_none(self):
        for seeds in ([], ["#"] * 4, [""], ["#########"], ["#-"], ["-#"], ["#", "#a#"], ["#", "##", "# #"]):
            with self.subTest(seeds), self.assertRaises(BadSeed):
                Shelf("ab", (1, 1), seeds)

    def test_bad_row_ahead_of_bad_seed(self):
        for letters, scale in (("a", (1, 1)), ("ab", (0, 1)), ("a", (0, 1))):
            with self.subTest((letters, scale)), self.assertRaises(BadRow):
                Shelf(letters, scale, [])

    def test_defined_where_the_interface_lists_it(self):
        self.assertEqual(Shelf.__module__, "seedreach.shelf")
        self.assertIs(module.Shelf, Shelf)
        for name in ("lay", "rows", "windows", "find", "change", "put", "cut"):
            self.assertIn(name, vars(Shelf))


class Rows(unittest.TestCase):
    def test_seven_with_their_numbers(self):
        shelf = Shelf("abc", (1, 1), ["##"])
        self.assertEqual(shelf.rows(), [])
        for number, row in enumerate(SEVEN):
            told = shelf.lay(row)
            self.assertEqual((told, told.__class__), (number, int))
            self.assertEqual(shelf.rows(), list(SEVEN[:number + 1]))
        self.assertIs(shelf.rows().__class__, list)

    def test_the_same_row_twice(self):
        shelf = Shelf("ab", (1, 1), ["##"])
        self.assertEqual([shelf.lay("ab"), shelf.lay("ab"), shelf.lay("")], [0, 1, 2])
        self.assertEqual(shelf.rows(), ["ab", "ab", ""])

    def test_a_row_that_is_none_is_not_laid(self):
        shelf = shelf_of(["ab"], ["##"], letters="ab")
        windows = shelf.windows()
        for row in ("c", "abc", "A", "a b", "a" * 61, "-", "#"):
            with self.subTest(row), self.assertRaises(BadRow):
                shelf.lay(row)
            self.assertEqual((shelf.rows(), shelf.windows()), (["ab"], windows))
        self.assertEqual(shelf.lay("b" * 60), 1)

    def test_beyond_seven_no_error_is_raised(self):
        shelf = shelf_of(SEVEN, ["##"])
        self.assertEqual([shelf.lay("ab"), shelf.lay("ba")], [7, 8])
        self.assertEqual(shelf.rows(), list(SEVEN) + ["ab", "ba"])


class Windows(unittest.TestCase):
    def test_of_all_seeds_on_all_rows(self):
        shelf = shelf_of(["abca", "b", "", "cab"], ["#-#", "##"])
        self.assertEqual(shelf.windows(), [
            (0, "ac", 0, 0), (0, "ba", 0, 1), (0, "cb", 3, 0),
            (1, "ab", 0, 0), (1, "ab", 3, 1), (1, "bc", 0, 1), (1, "ca", 0, 2), (1, "ca", 3, 0)])

    def test_the_signs_under_a_gap_are_not_picked(self):
        self.assertEqual(shelf_of(["abcab"], ["#--#"]).windows(), [(0, "aa", 0, 0), (0, "bb", 0, 1)])
        self.assertEqual(shelf_of(["abcab"], ["##-##"]).windows(), [(0, "abab", 0, 0)])
        self.assertEqual(shelf_of(["cba"], ["#"]).windows(), [(0, "a", 0, 2), (0, "b", 0, 1), (0, "c", 0, 0)])

    def test_the_same_seed_twice(self):
        self.assertEqual(shelf_of(["aba"], ["##", "##"]).windows(),
                         [(0, "ab", 0, 0), (0, "ba", 0, 1), (1, "ab", 0, 0), (1, "ba", 0, 1)])

    def test_rows_that_are_shorter_than_a_seed(self):
        self.assertEqual(shelf_of(["", "a", "ab", "abc"], ["###"]).windows(), [(0, "abc", 3, 0)])
        self.assertEqual(shelf_of(["", "a", "abcabca"], ["########"]).windows(), [])
        self.assertEqual(shelf_of(["abcabcab"], ["#------#"]).windows(), [(0, "ab", 0, 0)])
        self.assertEqual(shelf_of(["ab"], ["########", "##"]).windows(), [(1, "ab", 0, 0)])

    def test_no_rows(self):
        self.assertEqual(Shelf("abc", (1, 1), ["#"]).windows(), [])
        self.assertEqual(shelf_of([""], ["#"]).windows(), [])

    def test_against_a_plain_walk(self):
        for seeds, scale in BARRED:
            for rows in (SEVEN, SEVEN[::-1], SEVEN[:3], ("ab" * 30, "c" * 60)):
                shelf = shelf_of(rows, seeds, scale)
                self.assertEqual(shelf.windows(), plain_windows(rows, seeds), (rows, seeds))

    def test_kinds_of_values(self):
        told = shelf_of(["abca"], ["#-#"]).windows()
        self.assertIs(told.__class__, list)
        for window in told:
            self.assertIs(window.__class__, tuple)
            self.assertEqual([part.__class__ for part in window], [int, str, int, int])

    def test_two_shelves_beside_one_another(self):
        one = Shelf("abc", (1, 1), ["##"])
        other = Shelf("bca", (2, 3), ["#-#"])
        self.assertEqual([one.lay("abc"), other.lay("ccb"), other.lay("acb"), one.lay("ca")], [0, 0, 1, 1])
        one.change(0, 0, "c")
        other.cut(1, 0)
        self.assertEqual((one.rows(), other.rows()), (["cbc", "ca"], ["ccb", "cb"]))
        self.assertEqual(one.windows(), [(0, "bc", 0, 1), (0, "ca", 1, 0), (0, "cb", 0, 0)])
        self.assertEqual(other.windows(), [(0, "cb", 0, 0)])
        self.assertEqual(one.find("ca", 2), [(1, 0, 0, 2, 2)])
        self.assertEqual(other.find("ccb", 6), [(0, 0, 0, 3, 6)])


class Find(unittest.TestCase):
    def test_over_all_rows(self):
        shelf = shelf_of(["abca", "ca", "bcabb"], ["##"])
        self.assertEqual(shelf.find("bca", 2), [(0, 1, 0, 3, 3), (1, -1, 1, 3, 2), (2, 0, 0, 3, 3)])
        self.assertEqual(shelf.find("bca", 3), [(0, 1, 0, 3, 3), (2, 0, 0, 3, 3)])
        self.assertEqual(shelf.find("bca", 4), [])
        self.assertEqual(shelf.find("", 2), [])
        self.assertEqual(shelf.find("b", 2), [])

    def test_several_of_one_lane(self):
        shelf = shelf_of(["ccaabb", "aabbcc"], ["##"], (1, 2))
        self.assertEqual(shelf.find("aacbb", 2), [(0, 1, 3, 5, 2), (0, 2, 0, 2, 2), (1, -1, 3, 5, 2), (1, 0, 0, 2, 2)])
        self.assertEqual(shelf_of(["aabccaa"], ["##"], (1, 2)).find("aacccaa", 2), [
            (0, -5, 5, 7, 2), (0, 0, 0, 2, 2), (0, 0, 3, 7, 4), (0, 1, 2, 4, 2), (0, 5, 0, 2, 2)])

    def test_told_just_one_above_the_bar(self):
        for seeds, scale in BARRED:
            limit = bar(seeds, scale)
            shelf = shelf_of(SEVEN, seeds, scale)
            for row in SEVEN + ("abcabcabc", "cacbabcbbc", "ccbbaaccbbaa"):
                self.assertEqual(shelf.find(row, limit[1] + 1), plain_find(SEVEN, row, scale, limit[1] + 1),
                                 (seeds, scale, row))

    def test_against_a_plain_walk_over_all_lanes(self):
        rows = all_texts("ab", 4)
        for seeds, scale in BARRED[:8]:
            limit = bar(seeds, scale)
            for begin in range(0, len(rows), 7):
                shelf = shelf_of(rows[begin:begin + 7], seeds, scale, "ab")
                for row in ("aabab", "ab", "", "bbb", "baaba"):
                    for told in (limit[1] + 1, limit[1] + scale[0] + 1):
                        self.assertEqual(shelf.find(row, told), plain_find(shelf.rows(), row, scale, told),
                                         (seeds, scale, row, told))

    def test_longest_rows(self):
        shelf = shelf_of(["a" * 60] * 7, ["########"], (1, 7), "ab")
        self.assertEqual(shelf.find("a" * 60, 60), [(number, 0, 0, 60, 60) for number in range(7)])
        self.assertEqual(len(shelf.find("a" * 60, 8)), 7 * (2 * 52 + 1))

    def test_as_the_rows_are_reached_one_by_one(self):
        shelf = shelf_of(SEVEN, ["#-#", "##"], (2, 3))
        for row in SEVEN:
            found = shelf.find(row, 5)
            for number, laid in enumerate(SEVEN):
                self.assertEqual([stretch[1:4] for stretch in found if stretch[0] == number],
                                 reaches(row, laid, (2, 3), 5))

    def test_each_that_is_found_is_seeded(self):
        for seeds, scale in BARRED:
            shelf = shelf_of(SEVEN, seeds, scale)
            for row in SEVEN:
                for number, shift, begin, end, _ in shelf.find(row, bar(seeds, scale)[1] + 1):
                    pairs = [pair for pair in plain_pairs(row, SEVEN[number], shift) if begin <= pair[0] < end]
                    likes = "".join("=" if row[p] == SEVEN[number][q] else "/" for p, q in pairs)
                    self.assertTrue(plain_seeded(seeds, likes))

    def test_lanes_on_which_no_seed_fits_are_not_looked_at(self):
        for seeds, scale in BARRED:
            shelf = shelf_of(SEVEN, seeds, scale)
            for row in SEVEN:
                with mock.patch.object(module, "lane_reaches", wraps=module.lane_reaches) as looked:
                    shelf.find(row, bar(seeds, scale)[1] + 1)
                lanes = [(call.args[1], call.args[2]) for call in looked.call_args_list]
                seeded = [(laid, shift) for laid in SEVEN for shift in range(-12, 13)
                          if plain_seeded(seeds, plain_likes(row, laid, shift))]
                self.assertEqual(lanes, seeded)

    def test_told_equal_to_the_bar_or_less(self):
        for seeds, scale in BARRED:
            limit = bar(seeds, scale)
            shelf = shelf_of(SEVEN, seeds, scale)
            for told in (limit[1], limit[1] - 1, 0, -1, -FAR):
                with self.subTest((seeds, scale, told)), self.assertRaises(TooLow) as caught:
                    shelf.find("abc", told)
                self.assertEqual(caught.exception.bar, limit)
                self.assertIs(caught.exception.bar.__class__, tuple)

    def test_seeds_that_have_no_bar(self):
        for seeds, scale in ((["##"], (2, 1)), (["#--#"], (9, 8)), (["########"] * 3, (9, 9)), (["###"], (2, 3))):
            for rows in ([], SEVEN):
                shelf = shelf_of(rows, seeds, scale)
                for told in (1, 100, FAR):
                    with self.subTest((seeds, scale, told)), self.assertRaises(TooLow) as caught:
                        shelf.find("abc", told)
                    self.assertEqual(caught.exception.bar, bar(seeds, scale))
                    self.assertEqual(caught.exception.bar[0], "endless")

    def test_a_shelf_of_no_rows(self):
        shelf = Shelf("abc", (1, 1), ["##"])
        self.assertEqual(shelf.find("abc", 2), [])
        self.assertRaises(TooLow, shelf.find, "abc", 1)

    def test_a_row_that_is_none_ahead_of_too_low(self):
        for seeds, scale, told in ((["##"], (1, 1), 1), (["##"], (2, 1), 9), (["##"], (1, 1), 2)):
            shelf = shelf_of(SEVEN, seeds, scale)
            for row in ("d", "abd", "A", "a" * 61, " "):
                with self.subTest((row, told)), self.assertRaises(BadRow):
                    shelf.find(row, told)

    def test_a_row_that_is_looked_for_is_not_laid(self):
        shelf = shelf_of(SEVEN, ["##"])
        windows = shelf.windows()
        for row in ("abcabc", "ccc", ""):
            first = shelf.find(row, 2)
            self.assertEqual(shelf.find(row, 2), first)
            self.assertRaises(TooLow, shelf.find, row, 1)
            self.assertEqual((shelf.rows(), shelf.windows()), (list(SEVEN), windows))
        self.assertEqual(shelf.lay("a"), 7)

    def test_kinds_of_values(self):
        told = shelf_of(["abca", "bca"], ["##"]).find("bca", 2)
        self.assertIs(told.__class__, list)
        self.assertEqual(len(told), 2)
        for stretch in told:
            self.assertIs(stretch.__class__, tuple)
            self.assertEqual([part.__class__ for part in stretch], [int] * 5)


class DeedsByHand(unittest.TestCase):
    def test_change(self):
        shelf = shelf_of(["abcab", "ab"], ["##", "#-#"])
        # ## at 1 and 2; #-# at 0, at 1 (where its gap is over the place) and at 2.
        self.assertEqual(shelf.change(0, 2, "a"), (5, 5))
        self.assertEqual(shelf.rows(), ["abaab", "ab"])
        self.assertEqual(shelf.windows(), [
            (0, "aa", 0, 2), (0, "ab", 0, 0), (0, "ab", 0, 3), (0, "ab", 1, 0), (0, "ba", 0, 1),
            (1, "aa", 0, 0), (1, "ab", 0, 2), (1, "ba", 0, 1)])

    def test_change_at_the_ends(self):
        shelf = shelf_of(["abcab"], ["##", "#-#"])
        self.assertEqual(shelf.change(0, 0, "c"), (2, 2))
        self.assertEqual(shelf.change(0, 4, "c"), (2, 2))
        self.assertEqual(shelf.rows(), ["cbcac"])

    def test_put(self):
        shelf = shelf_of(["abcab"], ["##", "#-#"])
        # Gone: ## at 1, #-# at 0 and 1. Come: ## at 1 and 2, #-# at 0, 1 and 2.
        self.assertEqual(shelf.put(0, 2, "c"), (3, 5))
        self.assertEqual(shelf.rows(), ["abccab"])

    def test_put_at_the_ends(self):
        shelf = shelf_of(["abcab"], ["##", "#-#"])
        self.assertEqual(shelf.put(0, 0, "c"), (0, 2))
        self.assertEqual(shelf.rows(), ["cabcab"])
        self.assertEqual(shelf.put(0, 6, "a"), (0, 2))
        self.assertEqual(shelf.rows(), ["cabcaba"])
        self.assertEqual(shelf.put(0, 6, "b"), (2, 4))
        self.assertEqual(shelf.rows(), ["cabcabba"])

    def test_cut(self):
        shelf = shelf_of(["abcab"], ["##", "#-#"])
        # Gone: ## at 1 and 2, #-# at 0, 1 and 2. Come: ## at 1, #-# at 0 and 1.
        self.assertEqual(shelf.cut(0, 2), (5, 3))
        self.assertEqual(shelf.rows(), ["abab"])

    def test_cut_at_the_ends(self):
        shelf = shelf_of(["abcab"], ["##", "#-#"])
        self.assertEqual(shelf.cut(0, 0), (2, 0))
        self.assertEqual(shelf.rows(), ["bcab"])
        self.assertEqual(shelf.cut(0, 3), (2, 0))
        self.assertEqual(shelf.rows(), ["bca"])

    def test_the_same_sign_put_again(self):
        shelf = shelf_of(["aaaa"], ["##", "#--#"])
        windows = shelf.windows()
        self.assertEqual(shelf.change(0, 1, "a"), (3, 3))
        self.assertEqual((shelf.rows(), shelf.windows()), (["aaaa"], windows))
        self.assertEqual(shelf.put(0, 1, "a"), (2, 4))
        self.assertEqual(shelf.cut(0, 1), (4, 2))
        self.assertEqual((shelf.rows(), shelf.windows()), (["aaaa"], windows))

    def test_the_same_seed_twice_counts_twice(self):
        shelf = shelf_of(["abc"], ["##", "##"])
        self.assertEqual(shelf.change(0, 1, "a"), (4, 4))
        self.assertEqual(shelf.put(0, 1, "a"), (2, 4))
        self.assertEqual(shelf.cut(0, 1), (4, 2))

    def test_cut_of_the_only_sign(self):
        shelf = shelf_of(["a", "b"], ["#", "##"])
        self.assertEqual(shelf.cut(0, 0), (1, 0))
        self.assertEqual((shelf.rows(), shelf.windows()), (["", "b"], [(0, "b", 1, 0)]))
        self.assertEqual(shelf.put(0, 0, "c"), (0, 1))
        self.assertEqual((shelf.rows(), shelf.windows()), (["c", "b"], [(0, "b", 1, 0), (0, "c", 0, 0)]))

    def test_rows_that_are_shorter_than_a_seed(self):
        shelf = shelf_of(["abc"], ["####"])
        self.assertEqual(shelf.change(0, 1, "a"), (0, 0))
        self.assertEqual(shelf.put(0, 1, "a"), (0, 1))
        self.assertEqual(shelf.put(0, 1, "a"), (1, 2))
        self.assertEqual(shelf.cut(0, 4), (1, 0))
        self.assertEqual(shelf.cut(0, 1), (1, 0))
        self.assertEqual(shelf.cut(0, 1), (0, 0))
        self.assertEqual(shelf.rows(), ["aa"])

    def test_put_into_a_row_of_fifty_nine_signs(self):
        for place in (0, 30, 59):
            shelf = shelf_of(["ab" * 29 + "a"], ["#"])
            self.assertEqual(shelf.put(0, place, "c"), (0, 1))
            self.assertEqual([len(row) for row in shelf.rows()], [60])
            self.assertEqual(shelf.rows()[0][place], "c")

    def test_put_into_a_row_of_sixty_is_refused(self):
        for place in (0, 30, 59, 60):
            shelf = shelf_of(["ab" * 30, "c"], ["#-#"])
            windows = shelf.windows()
            with self.subTest(place), self.assertRaises(BadRow):
                shelf.put(0, place, "c")
            self.assertEqual((shelf.rows(), shelf.windows()), (["ab" * 30, "c"], windows))

    def test_a_row_of_sixty_is_changed_and_cut(self):
        shelf = shelf_of(["ab" * 30], ["#-#"])
        self.assertEqual(shelf.change(0, 59, "c"), (1, 1))
        self.assertEqual(shelf.change(0, 30, "c"), (3, 3))
        self.assertEqual(shelf.cut(0, 30), (3, 2))
        self.assertEqual(shelf.put(0, 59, "c"), (0, 1))
        self.assertEqual(len(shelf.rows()[0]), 60)

    def test_kinds_of_values(self):
        shelf = shelf_of(["abc"], ["##"])
        for told in (shelf.change(0, 1, "a"), shelf.put(0, 3, "a"), shelf.cut(0, 0), shelf.change(0, 0, "a")):
            self.assertIs(told.__class__, tuple)
            self.assertEqual([part.__class__ for part in told], [int, int])


class DeedsAgainstAPlainWalk(unittest.TestCase):
    def check_anew(self, shelf, seeds, scale):
        """Rows, windows and find are as on a shelf on which the rows were laid anew."""
        anew = shelf_of(shelf.rows(), seeds, scale)
        self.assertEqual(shelf.rows(), anew.rows())
        self.assertEqual(shelf.windows(), anew.windows())
        self.assertEqual(shelf.windows(), plain_windows(anew.rows(), seeds))
        told = bar(seeds, scale)[1] + 1
        for row in ("abcabc", "ccb", anew.rows()[0]):
            self.assertEqual(shelf.find(row, told), anew.find(row, told))

    def test_each_deed_at_each_place(self):
        for seeds, scale in BARRED:
            for row in ("", "a", "bc", "abcab", "ccccccccc", "abcabcabcabc"):
                for deed, last in (("change", len(row) - 1), ("put", len(row)), ("cut", len(row) - 1)):
                    for place in range(last + 1):
                        shelf = shelf_of(["cab", row, "bca"], seeds, scale)
                        named = Named(row)
                        before = named.do(deed, place, "c")
                        self.assertEqual(do(shelf, deed, 1, place, "c"), plain_counts(before, named.names, seeds),
                                         (seeds, row, deed, place))
                        self.assertEqual(shelf.rows(), ["cab", "".join(named.signs), "bca"])
                        self.check_anew(shelf, seeds, scale)

    def test_eight_deeds_and_more_in_a_row(self):
        deeds = (("put", 0, 3, "a"), ("cut", 4, 0, ""), ("change", 2, 1, "c"), ("put", 1, 0, "b"), ("cut", 3, 0, ""),
                 ("put", 1, 1, "b"), ("change", 6, 9, "a"), ("put", 6, 10, "c"), ("cut", 5, 2, ""), ("put", 3, 0, "c"))
        for seeds, scale in BARRED:
            shelf = shelf_of(SEVEN, seeds, scale)
            named = [Named(row) for row in SEVEN]
            for deed, number, place, sign in deeds:
                before = named[number].do(deed, place, sign)
                self.assertEqual(do(shelf, deed, number, place, sign),
                                 plain_counts(before, named[number].names, seeds), (seeds, deed, number, place))
                self.assertEqual(shelf.rows(), ["".join(row.signs) for row in named])
                self.check_anew(shelf, seeds, scale)

    def test_windows_are_fewer_and_more_by_what_is_told(self):
        for seeds, scale in BARRED:
            for deed, place in product(("change", "put", "cut"), (0, 3, 7)):
                shelf = shelf_of(["bbabcacb", "abc"], seeds, scale)
                many = len(shelf.windows())
                gone, come = do(shelf, deed, 0, place, "a")
                self.assertEqual(len(shelf.windows()), many - gone + come)


class Refused(unittest.TestCase):
    def check_refused(self, shelf, error, deed, *told):
        """The deed is refused with that error, and rows and windows are as they were."""
        before = (shelf.rows(), shelf.windows())
        with self.subTest((deed, told)):
            with self.assertRaises(ReachError) as caught:
                getattr(shelf, deed)(*told)
            self.assertIs(caught.exception.__class__, error)
        self.assertEqual((shelf.rows(), shelf.windows()), before)

    def test_numbers_that_there_are_not(self):
        for rows in ([], ["abc"], SEVEN):
            shelf = shelf_of(rows, ["##"])
            for number in (-1, -2, len(rows), len(rows) + 1, -FAR, FAR, -len(rows) - 1):
                # Also where place and sign are none.
                for place in (0, -1, 61, FAR):
                    self.check_refused(shelf, NoRow, "cut", number, place)
                    for sign in ("a", "d", "", "ab"):
                        self.check_refused(shelf, NoRow, "change", number, place, sign)
                        self.check_refused(shelf, NoRow, "put", number, place, sign)

    def test_places_that_there_are_not(self):
        rows = ["abc", "", "a", "ab" * 30]
        shelf = shelf_of(rows, ["##"])
        for number, row in enumerate(rows):
            for place in (-1, -2, -len(row) - 1, -FAR, len(row) + 1, len(row) + 2, FAR):
                self.check_refused(shelf, NoPlace, "cut", number, place)
                # Also where the sign is none.
                for sign in ("a", "d", "", "ab", "B"):
                    self.check_refused(shelf, NoPlace, "change", number, place, sign)
                    self.check_refused(shelf, NoPlace, "put", number, place, sign)
            self.check_refused(shelf, NoPlace, "cut", number, len(row))
            for sign in ("a", "d", "", "ab"):
                self.check_refused(shelf, NoPlace, "change", number, len(row), sign)

    def test_signs_that_are_none(self):
        shelf = shelf_of(["abc", "c", "ab" * 30], ["##"])
        for sign in ("", "ab", "abc", "bc", "aa", "d", "z", "A", " ", "-", "#", "\n", "a\n"):
            for number, last in ((0, 2), (1, 0), (2, 59)):
                for place in (0, last):
                    self.check_refused(shelf, BadRow, "change", number, place, sign)
                    self.check_refused(shelf, BadRow, "put", number, place, sign)
                self.check_refused(shelf, BadRow, "put", number, last + 1, sign)

    def test_letters_that_are_not_this_shelf_s(self):
        shelf = shelf_of(["xy"], ["##"], letters="yx")
        self.check_refused(shelf, BadRow, "change", 0, 0, "a")
        # Both of the letters, as the shelf has them.
        self.check_refused(shelf, BadRow, "change", 0, 0, "yx")
        self.assertEqual(shelf.change(0, 0, "y"), (1, 1))

    def test_a_good_deed_behind_refused_ones(self):
        shelf = shelf_of(["abc"], ["##"])
        self.check_refused(shelf, NoRow, "cut", 1, 0)
        self.check_refused(shelf, NoPlace, "cut", 0, 3)
        self.check_refused(shelf, BadRow, "put", 0, 3, "d")
        self.assertEqual(shelf.put(0, 3, "a"), (0, 1))
        self.assertEqual(shelf.rows(), ["abca"])


class AskedAgain(unittest.TestCase):
    def test_the_seeds_handed_in_are_changed(self):
        seeds = ["##", "#-#"]
        shelf = shelf_of(["abcab", "ca"], seeds)
        windows, found = shelf.windows(), shelf.find("cab", 2)
        self.assertEqual(seeds, ["##", "#-#"])
        for changed in (["#", "#-#"], ["#"], [], ["a"]):
            seeds[:] = changed
            self.assertEqual((shelf.windows(), shelf.find("cab", 2)), (windows, found))
            with self.assertRaises(TooLow) as caught:
                shelf.find("cab", 1)
            self.assertEqual(caught.exception.bar, bar(["##", "#-#"], (1, 1)))
        self.assertEqual(shelf.change(0, 2, "c"), (5, 5))

    def test_what_is_given_back_is_changed(self):
        shelf = shelf_of(["abcab", "ca"], ["##", "#-#"])
        for told in (shelf.rows, shelf.windows, lambda: shelf.find("cab", 2)):
            first = told()
            kept = list(first)
            first.append(first[0])
            first[0] = ("x", 1)
            self.assertEqual(told(), kept)
            first.clear()
            self.assertEqual(told(), kept)
        self.assertEqual(shelf.lay("b"), 2)
        self.assertEqual(shelf.rows(), ["abcab", "ca", "b"])

    def test_what_was_given_back_stays_behind_a_deed(self):
        shelf = shelf_of(["abcab"], ["##"])
        rows, windows, found = shelf.rows(), shelf.windows(), shelf.find("abc", 2)
        kept = (list(rows), list(windows), list(found))
        shelf.cut(0, 0)
        shelf.lay("abc")
        self.assertEqual((rows, windows, found), kept)

    def test_the_same_answers_again(self):
        shelf = shelf_of(SEVEN, ["##", "#-#"], (2, 3))
        first = (shelf.rows(), shelf.windows(), shelf.find("abcab", 5))
        for _ in range(3):
            self.assertEqual((shelf.rows(), shelf.windows(), shelf.find("abcab", 5)), first)

    def test_each_ripe_stretch_as_in_the_plain_search(self):
        # Of several shelves and orders of asking, the answers do not depend on each other.
        one, other = shelf_of(SEVEN, ["##"]), shelf_of(SEVEN[::-1], ["##"])
        for row in SEVEN:
            for told in (2, 3, 5):
                self.assertEqual([stretch[1:4] for stretch in one.find(row, told) if stretch[0] == 4],
                                 plain_reaches(row, SEVEN[4], (1, 1), told))
                self.assertEqual([stretch[1:] for stretch in one.find(row, told) if stretch[0] == 0],
                                 [stretch[1:] for stretch in other.find(row, told) if stretch[0] == 6])


if __name__ == "__main__":
    unittest.main()
