"""Point 11, lane alone, and point 1 for it."""

import unittest
from itertools import product

from seedreach import papers
from seedreach.errors import BadSeed, TooLow
from seedreach.papers import lane
from seedreach.seeds import bar
from tests.plain import all_texts, plain_lane, plain_likes, plain_seeded

FAR = 10 ** 30
# Seeds and scales that have a bar.
BARRED = ((["##"], (1, 1)), (["#-#"], (2, 3)), (["###"], (1, 2)), (["#"], (3, 2)), (["#-#", "##"], (1, 1)),
          (["##-#", "#-##"], (1, 2)), (["###", "#---#", "#----#"], (7, 5)), (["##", "########"], (2, 2)))
ENDLESS = ((["##"], (2, 1)), (["#-#"], (4, 3)), (["###"], (2, 3)), (["########", "#------#"], (9, 1)))


class Reached(unittest.TestCase):
    def test_the_ripe_stretches(self):
        self.assertEqual(lane("abcd", "abcx", 0, ["##"], (1, 1), 2), ("reaches", [(0, 0, 3)]))
        self.assertEqual(lane("abcxabxx", "abcyabyy", 0, ["##"], (1, 2), 2), ("reaches", [(0, 0, 3), (0, 4, 6)]))
        self.assertEqual(lane("abcxabxx", "abcyabyy", 0, ["##"], (1, 2), 3), ("reaches", [(0, 0, 3)]))

    def test_shifts_below_nought_and_above(self):
        self.assertEqual(lane("xxabc", "abc", -2, ["##"], (1, 1), 2), ("reaches", [(-2, 2, 5)]))
        self.assertEqual(lane("abc", "xxabc", 2, ["##"], (1, 1), 2), ("reaches", [(2, 0, 3)]))
        self.assertEqual(lane("xabxcd", "abycd", -1, ["##"], (1, 3), 2), ("reaches", [(-1, 1, 3), (-1, 4, 6)]))

    def test_told_that_is_come_to_just_so(self):
        self.assertEqual(lane("abcd", "abcd", 0, ["##"], (2, 3), 8), ("reaches", [(0, 0, 4)]))
        self.assertEqual(lane("abcd", "abcd", 0, ["##"], (2, 3), 9), ("low", 8))
        self.assertEqual(lane("ab", "ab", 0, ["##"], (2, 3), 3), ("reaches", [(0, 0, 2)]))

    def test_ahead_of_low(self):
        # One of the stretches comes to what is told, another one does not.
        self.assertEqual(lane("abxxabc", "abyyabc", 0, ["##"], (1, 2), 3), ("reaches", [(0, 4, 7)]))

    def test_kinds_of_values(self):
        told = lane("abcxabxx", "abcyabyy", 0, ["##"], (1, 2), 2)
        self.assertIs(told.__class__, tuple)
        self.assertEqual([part.__class__ for part in told], [str, list])
        for stretch in told[1]:
            self.assertIs(stretch.__class__, tuple)
            self.assertEqual([part.__class__ for part in stretch], [int, int, int])


class Unseeded(unittest.TestCase):
    def test_the_first_unlike_pair_under_each_seed_at_each_place(self):
        # Likes ==/==, under ### at 0, 1 and 2.
        self.assertEqual(lane("abcde", "abxde", 0, ["###"], (1, 2), 3), ("unseeded", [2, 2, 2]))
        self.assertEqual(lane("abcd", "xxxx", 0, ["##", "#--#"], (1, 1), 2), ("unseeded", [0, 1, 2, 0]))
        self.assertEqual(lane("abcd", "axcx", 0, ["##", "#--#"], (1, 1), 2), ("unseeded", [1, 1, 3, 3]))

    def test_what_is_unlike_under_a_gap_is_passed_over(self):
        # Likes ==/=/: pair 2 lies under a gap of the first, the last one alone under a #.
        self.assertEqual(lane("abcde", "abxdx", 0, ["#---#"], (1, 1), 5), ("unseeded", [4]))
        self.assertEqual(lane("abcde", "axxdx", 0, ["#-#"], (1, 1), 3), ("unseeded", [2, 1, 2]))

    def test_for_each_seed_in_order(self):
        self.assertEqual(lane("abcd", "axcx", 0, ["#--#", "##"], (1, 1), 2), ("unseeded", [3, 1, 1, 3]))
        self.assertEqual(lane("abc", "axc", 0, ["###", "##"], (1, 1), 2), ("unseeded", [1, 1, 1]))
        self.assertEqual(lane("abc", "axx", 0, ["##", "##", "#-#"], (1, 1), 2), ("unseeded", [1, 1, 1, 1, 2]))

    def test_places_are_those_of_the_first_row(self):
        self.assertEqual(lane("zzabcd", "axcx", -2, ["##"], (1, 1), 2), ("unseeded", [3, 3, 5]))
        self.assertEqual(lane("abcd", "zzaxcx", 2, ["##"], (1, 1), 2), ("unseeded", [1, 1, 3]))
        self.assertEqual(lane("zabcd", "axcxz", -1, ["##"], (1, 1), 2), ("unseeded", [2, 2, 4]))
        self.assertEqual(lane("abcdz", "zaxcx", 1, ["##"], (1, 1), 2), ("unseeded", [1, 1, 3]))

    def test_lanes_that_are_shorter_than_a_seed(self):
        self.assertEqual(lane("ab", "ab", 0, ["###"], (1, 2), 3), ("unseeded", []))
        self.assertEqual(lane("abcdefg", "abcdefg", 0, ["########"], (1, 7), 8), ("unseeded", []))
        self.assertEqual(lane("ab", "ax", 0, ["###", "##"], (1, 2), 3), ("unseeded", [1]))
        self.assertEqual(lane("abcd", "abcd", 3, ["##"], (1, 1), 2), ("unseeded", []))
        # Likes //=: the last seed is longer.
        self.assertEqual(lane("abcd", "xxxxc", 2, ["##", "#-#", "####"], (1, 1), 9), ("unseeded", [0, 1, 0]))

    def test_lanes_that_have_no_pair(self):
        for one, other, shift in (("", "", 0), ("", "abc", 1), ("abc", "", -1), ("abc", "abc", 3), ("abc", "abc", -3),
                                  ("abc", "abc", FAR), ("abc", "abc", -FAR)):
            for seeds in (["#"], ["##", "#"], ["########"]):
                self.assertEqual(lane(one, other, shift, seeds, (1, 9), 8), ("unseeded", []))

    def test_a_lane_as_long_as_a_seed(self):
        self.assertEqual(lane("abc", "abx", 0, ["###"], (1, 2), 3), ("unseeded", [2]))
        self.assertEqual(lane("abc", "abc", 0, ["###"], (1, 2), 4), ("low", 3))

    def test_kinds_of_values(self):
        told = lane("abcd", "axcx", 0, ["##", "#--#"], (1, 1), 2)
        self.assertIs(told.__class__, tuple)
        self.assertEqual([part.__class__ for part in told], [str, list])
        self.assertEqual([place.__class__ for place in told[1]], [int] * 4)


class Low(unittest.TestCase):
    def test_a_seed_fits_and_nothing_comes_to_told(self):
        self.assertEqual(lane("abcd", "abxd", 0, ["##"], (1, 1), 3), ("low", 2))
        self.assertEqual(lane("abcd", "abxd", 0, ["##"], (3, 4), 7), ("low", 6))
        self.assertEqual(lane("abcd", "abcd", 0, ["##"], (1, 1), FAR), ("low", 4))

    def test_the_greatest_of_several(self):
        self.assertEqual(lane("abxxabcxxab", "abyyabcyyab", 0, ["##"], (2, 9), 7), ("low", 6))
        self.assertEqual(lane("abxxabcxabc", "abyyabcyabc", 0, ["##"], (2, 3), 10), ("low", 9))

    def test_shifts_below_nought_and_above(self):
        self.assertEqual(lane("xxabc", "abc", -2, ["##"], (1, 1), 4), ("low", 3))
        self.assertEqual(lane("abc", "xxabc", 2, ["##"], (1, 1), 4), ("low", 3))

    def test_where_the_last_seed_alone_fits(self):
        self.assertEqual(lane("abcd", "axcx", 0, ["##", "#--#", "#-#"], (1, 1), 3), ("low", 1))

    def test_kinds_of_values(self):
        told = lane("abcd", "abxd", 0, ["##"], (1, 1), 3)
        self.assertIs(told.__class__, tuple)
        self.assertEqual([part.__class__ for part in told], [str, int])


class AgainstAPlainWalk(unittest.TestCase):
    def test_short_rows(self):
        rows = all_texts("ab", 3) + ["abab", "aabb", "bbaba", "abbab"]
        forms = {}
        for seeds, scale in BARRED:
            limit = bar(seeds, scale)[1]
            for one, other in product(rows, repeat=2):
                for shift in range(-6, 7, 1 + len(one) // 3):
                    for told in (limit + 1, limit + scale[0] + 1):
                        answer = lane(one, other, shift, seeds, scale, told)
                        self.assertEqual(answer, plain_lane(one, other, shift, seeds, scale, told),
                                         (one, other, shift, seeds, scale, told))
                        forms[answer[0]] = forms.get(answer[0], 0) + 1
        self.assertGreater(min(forms[form] for form in ("reaches", "unseeded", "low")), 200)

    def test_longer_rows(self):
        rows = ("abcabcab", "abacabad", "aabbaabbaa", "cabbaccabbac", "abababababa")
        for seeds, scale in BARRED:
            limit = bar(seeds, scale)[1]
            for one, other in product(rows, repeat=2):
                for shift in (-9, -4, -1, 0, 1, 3, 7, 10):
                    for told in (limit + 1, limit + 3):
                        self.assertEqual(lane(one, other, shift, seeds, scale, told),
                                         plain_lane(one, other, shift, seeds, scale, told),
                                         (one, other, shift, seeds, scale, told))

    def test_unseeded_just_where_no_seed_fits(self):
        for seeds, scale in BARRED:
            for one, other in product(("abbab", "babba", "aabab", "bb", ""), repeat=2):
                for shift in range(-5, 6):
                    answer = lane(one, other, shift, seeds, scale, bar(seeds, scale)[1] + 1)
                    self.assertEqual(answer[0] == "unseeded", not plain_seeded(seeds, plain_likes(one, other, shift)))

    def test_longest_rows(self):
        self.assertEqual(lane("a" * 60, "a" * 60, 0, ["########"], (1, 7), 60), ("reaches", [(0, 0, 60)]))
        self.assertEqual(lane("a" * 60, "a" * 60, -1, ["########"], (1, 7), 60), ("low", 59))
        self.assertEqual(lane("a" * 60, "b" * 60, 0, ["########"], (1, 7), 60), ("unseeded", list(range(53))))


class Refused(unittest.TestCase):
    def test_told_equal_to_the_bar_or_less(self):
        for seeds, scale in BARRED:
            limit = bar(seeds, scale)
            for told in (limit[1], limit[1] - 1, 0, -1, -FAR):
                # Also where something reaches it, where nothing is seeded, and where there is no pair.
                for one, other, shift in (("abcabcabc", "abcabcabc", 0), ("aaa", "bbb", 0), ("", "", 0), ("a", "a", 5)):
                    with self.subTest((seeds, told, one)), self.assertRaises(TooLow) as caught:
                        lane(one, other, shift, seeds, scale, told)
                    self.assertEqual(caught.exception.bar, limit)

    def test_where_there_is_no_bar(self):
        for seeds, scale in ENDLESS:
            for told in (1, 9, 540, FAR):
                for one, other in (("abcabcabc", "abcabcabc"), ("aaa", "bbb"), ("", "")):
                    with self.subTest((seeds, told, one)), self.assertRaises(TooLow) as caught:
                        lane(one, other, 0, seeds, scale, told)
                    self.assertEqual(caught.exception.bar, bar(seeds, scale))
                    self.assertEqual(caught.exception.bar[0], "endless")

    def test_bad_seed_ahead_of_too_low(self):
        wrong = ([], ["#"] * 4, [""], ["#########"], ["#-"], ["-#"], ["-"], ["#", "#a#"], ["#", "##", " "])
        for seeds in wrong:
            for scale, told in (((1, 1), 0), ((9, 1), 1), ((1, 9), 100), ((1, 1), -FAR)):
                with self.subTest((seeds, told)), self.assertRaises(BadSeed):
                    lane("abc", "abc", 0, seeds, scale, told)


class AskedAgain(unittest.TestCase):
    def test_seeds_are_not_changed(self):
        seeds = ["##", "#-#"]
        for one, other, told in (("abc", "abc", 2), ("abc", "xxx", 2), ("abc", "abc", 9)):
            lane(one, other, 0, seeds, (1, 1), told)
            self.assertEqual(seeds, ["##", "#-#"])
        self.assertRaises(TooLow, lane, "abc", "abc", 0, seeds, (1, 1), 1)
        self.assertEqual(seeds, ["##", "#-#"])

    def test_seeds_are_changed_behind_the_call(self):
        seeds = ["##"]
        first = lane("abcd", "axcx", 0, seeds, (1, 1), 2)
        seeds.append("#-#")
        self.assertEqual(first, ("unseeded", [1, 1, 3]))
        self.assertEqual(lane("abcd", "axcx", 0, seeds, (1, 1), 2), ("low", 1))
        seeds.pop()
        self.assertEqual(lane("abcd", "axcx", 0, seeds, (1, 1), 2), first)

    def test_what_is_given_back_is_changed(self):
        for one, other in (("abcd", "abcd"), ("abcd", "axcx"), ("", "")):
            first = lane(one, other, 0, ["##"], (1, 1), 2)
            kept = list(first[1])
            first[1].append(99)
            self.assertEqual(lane(one, other, 0, ["##"], (1, 1), 2), (first[0], kept))
            first[1].clear()
            self.assertEqual(lane(one, other, 0, ["##"], (1, 1), 2), (first[0], kept))

    def test_defined_under_papers(self):
        self.assertEqual(lane.__module__, "seedreach.papers")
        self.assertIs(papers.lane, lane)


if __name__ == "__main__":
    unittest.main()
