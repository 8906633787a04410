"""Point 12, and point 1 for it."""

import unittest
from itertools import combinations, product

from seedreach import pairs as module
from seedreach.errors import TooLow
from seedreach.pairs import bound, pairs
from seedreach.seeds import bar
from tests.plain import all_texts, plain_bound, plain_likes, plain_three, plain_worth, shelf_of

FAR = 10 ** 30
SEVEN = ("abcabc", "", "cab", "a", "bbabcacb", "ccccc", "acbacbacba")
SHELVES = ((), ("",), ("abc",), ("", ""), ("abc", "abc"), ("ab", "ba", "cc"), SEVEN, SEVEN[::-1],
           ("abcab", "abcab", "bcabc", "cabca", "cc", "aaa", "bcb"), ("aabbcc", "ccbbaa", "abcabc", "a", "b"))
# Seeds and scales that have a bar.
BARRED = ((["##"], (1, 1)), (["##"], (2, 3)), (["#-#"], (1, 1)), (["###"], (1, 2)), (["#"], (3, 2)),
          (["##", "#-#"], (1, 1)), (["##-#", "#-##"], (1, 2)), (["#-#", "##", "#-#"], (2, 5)), (["#--#"], (1, 3)),
          (["########", "#-#"], (1, 1)), (["#---#", "###", "#----#"], (7, 5)))


class Bound(unittest.TestCase):
    def check(self, one, other, scale, expected):
        """The bound of the two, the same the other way round."""
        for told in (bound(one, other, scale), bound(other, one, scale)):
            self.assertEqual((told, told.__class__), (expected, int), (one, other, scale))

    def test_no_sign_in_common(self):
        self.check("aab", "ccd", (9, 1), 0)
        self.check("a", "b", (1, 1), 0)

    def test_empty_rows(self):
        self.check("", "", (9, 1), 0)
        self.check("", "abc", (9, 1), 0)

    def test_the_same_row_twice(self):
        self.check("abcab", "abcab", (1, 9), 5)
        self.check("aaaa", "aaaa", (3, 1), 12)
        self.check("ab" * 30, "ab" * 30, (9, 9), 540)

    def test_signs_in_another_order(self):
        self.check("aabc", "cbaa", (2, 1), 8)
        self.check("abab", "aabb", (1, 1), 4)

    def test_signs_that_the_one_has_more_often(self):
        self.check("aaab", "ab", (1, 1), 2)
        self.check("aaabbc", "abb", (5, 1), 15)
        self.check("a" * 60, "a", (4, 1), 4)

    def test_each_as_often_as_the_row_has_it_that_has_it_less_often(self):
        # a: 1 of 3; b: 2 of 2; c: 0 of 2; d: 1 of 1.
        self.check("aaabbd", "abbccd", (1, 1), 4)
        self.check("aaabbd", "abbccd", (7, 3), 28)
        self.check("aabbb", "aaabb", (1, 1), 4)

    def test_the_loss_is_nothing_to_it(self):
        for loss in range(1, 10):
            self.check("abc", "bcd", (3, loss), 6)

    def test_against_taking_signs_out(self):
        for one, other in product(all_texts("abc", 4), repeat=2):
            self.assertEqual(bound(one, other, (2, 3)), plain_bound(one, other, (2, 3)), (one, other))

    def test_no_stretch_is_worth_more(self):
        for scale in ((1, 1), (3, 2), (9, 1)):
            for one, other in product(all_texts("ab", 4) + ["abcab", "cabbac"], repeat=2):
                told = bound(one, other, scale)
                for shift in range(-6, 7):
                    likes = plain_likes(one, other, shift)
                    for begin, end in combinations(range(len(likes) + 1), 2):
                        self.assertLessEqual(plain_worth(likes[begin:end], scale), told, (one, other, shift))


class Pairs(unittest.TestCase):
    def test_no_row_and_one(self):
        for rows in ([], [""], ["abc"]):
            self.assertEqual(pairs(shelf_of(rows, ["##"]), 2), ([], [], []))

    def test_each_of_the_three(self):
        shelf = shelf_of(["abcab", "abcbb", "ccb", "bacba"], ["##"], (1, 2))
        # 0 and 1 are like in abc; 3 has five and four signs in common with them, but no three in a row.
        self.assertEqual(pairs(shelf, 3), ([(0, 1, 3)], [(0, 2, 2), (1, 2, 2), (2, 3, 2)], [(0, 3), (1, 3)]))

    def test_the_greatest_worth_of_several(self):
        # ab, then abc, then ca of one lane; and others of other lanes.
        self.assertEqual(pairs(shelf_of(["abxxabcxxca", "abyyabcyyca"], ["##"], (1, 2), "abcxy"), 2),
                         ([(0, 1, 3)], [], []))
        self.assertEqual(pairs(shelf_of(["aabbcc", "ccaabb"], ["##"], (2, 3)), 4), ([(0, 1, 8)], [], []))
        self.assertEqual(pairs(shelf_of(["ccaabb", "aabbcc"], ["##"], (2, 3)), 4), ([(0, 1, 8)], [], []))

    def test_a_worth_of_told_itself(self):
        for told, expected in ((3, ([(0, 1, 4)], [], [])), (4, ([(0, 1, 4)], [], [])), (5, ([], [(0, 1, 4)], []))):
            self.assertEqual(pairs(shelf_of(["abca", "abca"], ["##"]), told), expected)

    def test_a_bound_of_told_itself(self):
        # Four signs in common, three like ones in a row.
        shelf = shelf_of(["cabc", "abcc"], ["##"], (2, 9))
        self.assertEqual([pairs(shelf, told) for told in (6, 7, 8, 9, 10)],
                         [([(0, 1, 6)], [], []), ([], [], [(0, 1)]), ([], [], [(0, 1)]), ([], [(0, 1, 8)], []),
                          ([], [(0, 1, 8)], [])])

    def test_what_is_reached_and_its_bound_is_told(self):
        self.assertEqual(pairs(shelf_of(["abc", "abc"], ["##"]), 3), ([(0, 1, 3)], [], []))
        self.assertEqual(pairs(shelf_of(["abc", "cba"], ["##"]), 3), ([], [], [(0, 1)]))
        self.assertEqual(pairs(shelf_of(["abc", "cba"], ["##"]), 4), ([], [(0, 1, 3)], []))

    def test_empty_rows(self):
        self.assertEqual(pairs(shelf_of(["", "ab", ""], ["##"]), 2), ([], [(0, 1, 0), (0, 2, 0), (1, 2, 0)], []))
        self.assertEqual(pairs(shelf_of(["", "aba", "ab"], ["#"]), 1), ([(1, 2, 2)], [(0, 1, 0), (0, 2, 0)], []))

    def test_against_a_plain_walk(self):
        many = [0, 0, 0]
        for seeds, scale in BARRED:
            limit = bar(seeds, scale)[1]
            for rows in SHELVES:
                for told in (limit + 1, limit + 2, limit + 2 * scale[0], 6 * scale[0] + limit):
                    answer = pairs(shelf_of(rows, seeds, scale), told)
                    self.assertEqual(answer, plain_three(rows, scale, told), (rows, seeds, scale, told))
                    many = [so_far + len(part) for so_far, part in zip(many, answer)]
        self.assertGreater(min(many), 100)

    def test_small_rows_against_a_plain_walk(self):
        rows = all_texts("ab", 4)
        for seeds, scale in BARRED[:8]:
            limit = bar(seeds, scale)[1]
            for begin in range(0, len(rows), 6):
                laid = rows[begin:begin + 6] + ["babba"]
                for told in (limit + 1, limit + scale[0] + 1):
                    self.assertEqual(pairs(shelf_of(laid, seeds, scale), told), plain_three(laid, scale, told))

    def test_each_pair_in_one_list_and_each_list_ascending(self):
        for seeds, scale in BARRED:
            limit = bar(seeds, scale)[1]
            for rows in SHELVES:
                for told in (limit + 1, limit + 4, FAR):
                    answer = pairs(shelf_of(rows, seeds, scale), told)
                    self.assertEqual(sorted(entry[:2] for part in answer for entry in part),
                                     list(combinations(range(len(rows)), 2)))
                    for part in answer:
                        self.assertEqual(part, sorted(part))

    def test_as_find_has_it(self):
        for seeds, scale in BARRED:
            shelf = shelf_of(SEVEN, seeds, scale)
            told = bar(seeds, scale)[1] + 1
            found = pairs(shelf, told)[0]
            for i, j in combinations(range(7), 2):
                worths = [stretch[4] for stretch in shelf.find(SEVEN[i], told) if stretch[0] == j]
                self.assertEqual([worth for one, other, worth in found if (one, other) == (i, j)],
                                 [max(worths)] if worths else [])

    def test_longest_rows(self):
        shelf = shelf_of(["a" * 60] * 7, ["########"], (1, 7))
        every = list(combinations(range(7), 2))
        self.assertEqual(pairs(shelf, 60), ([(i, j, 60) for i, j in every], [], []))
        self.assertEqual(pairs(shelf, 61), ([], [(i, j, 60) for i, j in every], []))
        shelf = shelf_of(["ab" * 30, "a" * 30 + "b" * 30], ["########"], (1, 7))
        self.assertEqual(pairs(shelf, 60), ([], [], [(0, 1)]))

    def test_kinds_of_values(self):
        told = pairs(shelf_of(["abcab", "abcbb", "ccb", "bacba"], ["##"], (1, 2)), 3)
        self.assertIs(told.__class__, tuple)
        self.assertEqual([part.__class__ for part in told], [list, list, list])
        for part, length in zip(told, (3, 3, 2)):
            self.assertGreater(len(part), 0)
            for entry in part:
                self.assertIs(entry.__class__, tuple)
                self.assertEqual([number.__class__ for number in entry], [int] * length)

    def test_beyond_seven_no_error_is_raised(self):
        rows = list(SEVEN) + ["abc", "cab"]
        self.assertEqual(pairs(shelf_of(rows, ["##"]), 2), plain_three(rows, (1, 1), 2))


class Refused(unittest.TestCase):
    def test_told_equal_to_the_bar_or_less(self):
        for seeds, scale in BARRED:
            limit = bar(seeds, scale)
            for rows in ([], [""], ["abc"], ["abc", "xyz"], ["abcabc", "abcabc"]):
                shelf = shelf_of(rows, seeds, scale, "abcxyz")
                for told in [limit[1] - 1, 0, -1, -FAR] + list(range(1, limit[1] + 1)):
                    with self.subTest((rows, seeds, scale, told)), self.assertRaises(TooLow) as caught:
                        pairs(shelf, told)
                    self.assertEqual(caught.exception.bar, limit)
                self.assertEqual(pairs(shelf, limit[1] + 1), plain_three(rows, scale, limit[1] + 1))

    def test_seeds_that_have_no_bar(self):
        for seeds, scale in ((["##"], (2, 1)), (["#--#"], (9, 8)), (["########"] * 3, (9, 9)), (["###"], (2, 3))):
            for rows in ([], ["abc"], SEVEN):
                shelf = shelf_of(rows, seeds, scale)
                for told in (1, 100, 541, FAR):
                    with self.subTest((seeds, scale, told)), self.assertRaises(TooLow) as caught:
                        pairs(shelf, told)
                    self.assertEqual(caught.exception.bar, bar(seeds, scale))
                    self.assertEqual(caught.exception.bar[0], "endless")


class AskedAgain(unittest.TestCase):
    def test_the_lists_that_were_told_are_changed(self):
        shelf = shelf_of(["abcab", "abcbb", "ccb", "bacba"], ["##"], (1, 2))
        first = pairs(shelf, 3)
        kept = tuple(list(part) for part in first)
        for part in first:
            part.append(part[0])
            part[0] = (9, 9)
        self.assertEqual(pairs(shelf, 3), kept)
        for part in first:
            part.clear()
        self.assertEqual(pairs(shelf, 3), kept)
        self.assertEqual(pairs(shelf, 3), kept)

    def test_what_the_shelf_tells_otherwise_stays(self):
        shelf = shelf_of(SEVEN, ["##", "#-#"], (2, 3))
        before = (shelf.rows(), shelf.windows(), shelf.find("abcab", 5))
        for told in (5, 9, FAR):
            pairs(shelf, told)
            self.assertRaises(TooLow, pairs, shelf, 1)
            self.assertEqual((shelf.rows(), shelf.windows(), shelf.find("abcab", 5)), before)
        self.assertEqual(shelf.lay("b"), 7)

    def test_rows_that_are_laid_behind_it(self):
        shelf = shelf_of(["abc"], ["##"])
        self.assertEqual(pairs(shelf, 2), ([], [], []))
        shelf.lay("bca")
        self.assertEqual(pairs(shelf, 2), ([(0, 1, 2)], [], []))
        shelf.change(1, 0, "c")
        self.assertEqual(pairs(shelf, 2), ([], [], [(0, 1)]))

    def test_defined_under_pairs(self):
        for told in (bound, pairs):
            self.assertEqual(told.__module__, "seedreach.pairs")
            self.assertIs(getattr(module, told.__name__), told)


if __name__ == "__main__":
    unittest.main()
