"""Point 11, shows, and point 1 for it."""

import unittest
from itertools import product

from seedreach import showing
from seedreach.errors import BadSeed, TooLow
from seedreach.papers import lane
from seedreach.seeds import bar
from seedreach.showing import shows
from tests.plain import all_texts, plain_lane, plain_shows, plain_under

FAR = 10 ** 30
# Seeds and scales that have a bar.
BARRED = ((["##"], (1, 1)), (["#-#"], (2, 3)), (["###"], (1, 2)), (["#"], (3, 2)), (["#-#", "##"], (1, 1)),
          (["##-#", "#-##"], (1, 2)), (["###", "#---#", "#----#"], (7, 5)), (["##", "########"], (2, 2)),
          (["##", "##"], (1, 3)))
ENDLESS = ((["##"], (2, 1)), (["#-#"], (4, 3)), (["###"], (2, 3)), (["########", "#------#"], (9, 1)))


class Reaches(unittest.TestCase):
    def check(self, rows, expected, told=2):
        """Whether the rows show so of the lane of shift 0 on which three stretches are ripe, worth 3, 2 and 2."""
        paper = ("reaches", rows)
        self.assertIs(shows("abcxxabxxca", "abcyyabyyca", 0, ["##"], (1, 2), told, paper), expected, (rows, told))

    def test_just_the_rows_that_lane_tells(self):
        self.check([(0, 0, 3), (0, 5, 7), (0, 9, 11)], True)
        self.check([(0, 0, 3)], True, told=3)

    def test_none_is_left_out(self):
        self.check([(0, 0, 3), (0, 5, 7)], False)
        self.check([(0, 0, 3), (0, 9, 11)], False)
        self.check([(0, 5, 7), (0, 9, 11)], False)
        self.check([(0, 0, 3)], False)
        self.check([], False)
        self.check([], False, told=3)

    def test_none_is_put_in(self):
        self.check([(0, 0, 3), (0, 5, 7), (0, 9, 11), (0, 11, 12)], False)
        self.check([(0, 0, 3), (0, 4, 5), (0, 5, 7), (0, 9, 11)], False)
        self.check([(0, 0, 3), (0, 5, 7)], False, told=3)
        self.check([(-1, 0, 1), (0, 0, 3), (0, 5, 7), (0, 9, 11)], False)

    def test_none_is_longer_or_shorter(self):
        self.check([(0, 0, 4), (0, 5, 7), (0, 9, 11)], False)
        self.check([(0, 0, 3), (0, 4, 7), (0, 9, 11)], False)
        self.check([(0, 0, 3), (0, 5, 7), (0, 9, 10)], False)
        self.check([(0, 1, 3)], False, told=3)
        self.check([(0, 0, 11)], False, told=3)

    def test_none_twice_and_none_in_another_order(self):
        self.check([(0, 0, 3), (0, 0, 3), (0, 5, 7), (0, 9, 11)], False)
        self.check([(0, 0, 3), (0, 9, 11), (0, 5, 7)], False)
        self.check([(0, 5, 7), (0, 0, 3), (0, 9, 11)], False)
        self.check([(0, 0, 3), (0, 0, 3)], False, told=3)

    def test_of_another_shift(self):
        self.check([(1, 0, 3), (1, 5, 7), (1, 9, 11)], False)
        self.check([(-1, 0, 3)], False, told=3)
        self.assertIs(shows("xxabc", "abc", -2, ["##"], (1, 1), 2, ("reaches", [(-2, 2, 5)])), True)
        self.assertIs(shows("xxabc", "abc", -2, ["##"], (1, 1), 2, ("reaches", [(-2, 0, 3)])), False)
        self.assertIs(shows("xxabc", "abc", -2, ["##"], (1, 1), 2, ("reaches", [(0, 2, 5)])), False)
        self.assertIs(shows("abc", "xxabc", 2, ["##"], (1, 1), 2, ("reaches", [(2, 0, 3)])), True)
        self.assertIs(shows("abc", "xxabc", 2, ["##"], (1, 1), 2, ("reaches", [(2, 2, 5)])), False)

    def test_no_rows_never_show_so(self):
        for one, other in (("abcd", "abcd"), ("abcd", "xxxx"), ("abcd", "abxx"), ("", ""), ("a", "")):
            self.assertIs(shows(one, other, 0, ["##"], (1, 1), 3, ("reaches", [])), False)

    def test_where_lane_tells_another_form(self):
        # One stretch is worth 2, a seed fits; no seed fits.
        self.assertIs(shows("abcd", "abxx", 0, ["##"], (1, 1), 3, ("reaches", [(0, 0, 2)])), False)
        self.assertIs(shows("abcd", "axcx", 0, ["##"], (1, 1), 2, ("reaches", [(0, 0, 1)])), False)


class Unseeded(unittest.TestCase):
    def check(self, unlike, expected):
        """Whether it shows so where of pairs 2 to 7 just 3 and 5 are like; ### lies at 2 to 5, #--# at 2 to 4."""
        paper = ("unseeded", unlike)
        told = bar(["###", "#--#"], (1, 5))[1] + 1
        self.assertIs(shows("zzabcdef", "xbxdxx", -2, ["###", "#--#"], (1, 5), told, paper), expected, unlike)

    def test_the_first_ones_and_others(self):
        # Under ### at 2, 3, 4, 5: 2 or 4; 4; 4 or 6; 6 or 7. Under #--# at 2, 3, 4: 2; 6; 4 or 7.
        under = ([2, 4], [4], [4, 6], [6, 7], [2], [6], [4, 7])
        self.assertEqual(plain_under("zzabcdef", "xbxdxx", -2, ["###", "#--#"]), list(under))
        for unlike in product(*under):
            self.check(list(unlike), True)

    def test_one_left_out_or_put_in(self):
        good = [4, 4, 6, 7, 2, 6, 7]
        self.check(good, True)
        self.check([], False)
        for at in range(7):
            self.check(good[:at] + good[at + 1:], False)
        for at in range(8):
            for place in (2, 4, 6, 7, 8, 0):
                self.check(good[:at] + [place] + good[at:], False)
        self.check(good * 2, False)

    def test_a_pair_that_is_like(self):
        # Pairs 3 and 5 are like.
        self.check([3, 4, 6, 7, 2, 6, 7], False)
        self.check([4, 3, 6, 7, 2, 6, 7], False)
        self.check([4, 5, 6, 7, 2, 6, 7], False)
        self.check([4, 4, 5, 7, 2, 6, 7], False)
        self.check([4, 4, 6, 5, 2, 6, 7], False)
        self.check([4, 4, 6, 7, 5, 6, 7], False)
        self.check([4, 4, 6, 7, 2, 3, 7], False)

    def test_a_pair_under_no_pick(self):
        # Beside the seed, ahead of it and behind.
        self.check([6, 4, 6, 7, 2, 6, 7], False)
        self.check([4, 2, 6, 7, 2, 6, 7], False)
        self.check([4, 6, 6, 7, 2, 6, 7], False)
        self.check([4, 4, 2, 7, 2, 6, 7], False)
        self.check([4, 4, 6, 4, 2, 6, 7], False)
        # Under its gap.
        self.check([4, 4, 6, 7, 4, 6, 7], False)
        self.check([4, 4, 6, 7, 2, 4, 7], False)
        self.check([4, 4, 6, 7, 2, 6, 6], False)

    def test_places_beyond_the_lane(self):
        good = [4, 4, 6, 7, 2, 6, 7]
        for at, place in product(range(7), (0, 1, 8, 9, -1, -2, -4, -6, FAR, -FAR)):
            self.check(good[:at] + [place] + good[at + 1:], False)

    def test_places_in_another_order(self):
        self.check([2, 4, 4, 6, 2, 6, 4], True)
        self.check([2, 6, 4, 2, 4, 6, 4], False)
        self.check([4, 2, 4, 6, 2, 6, 4], False)
        self.check([7, 6, 2, 7, 6, 4, 4], False)

    def test_places_of_the_other_row(self):
        self.check([place - 2 for place in [2, 4, 4, 6, 2, 6, 4]], False)
        self.assertIs(shows("xbxdxx", "zzabcdef", 2, ["##"], (1, 5), 2, ("unseeded", [0, 2, 2, 4, 4])), True)
        self.assertIs(shows("xbxdxx", "zzabcdef", 2, ["##"], (1, 5), 2, ("unseeded", [0, 2, 2, 4, 5])), True)
        self.assertIs(shows("xbxdxx", "zzabcdef", 2, ["##"], (1, 5), 2, ("unseeded", [2, 4, 4, 6, 6])), False)

    def test_where_some_seed_fits(self):
        # The last seed fits at the last place alone, and is worth told or not.
        for told in (3, 4):
            for place in (0, 1, 2, 3, 4):
                paper = ("unseeded", [1, 1, 3, 3, 1, place])
                self.assertIs(shows("abcde", "axcxe", 0, ["##", "#---#"], (1, 2), told, paper), False)
            self.assertIs(shows("abcde", "axcxe", 0, ["##", "#---#"], (1, 2), told, ("unseeded", [1, 1, 3, 3])), False)
        self.assertIs(shows("aaa", "aaa", 0, ["##"], (1, 2), 2, ("unseeded", [])), False)
        self.assertIs(shows("aaa", "aaa", 0, ["##"], (1, 2), 9, ("unseeded", [0, 1])), False)

    def test_where_it_fits_no_more(self):
        # Of each seed the places in its turn.
        self.assertIs(shows("abcde", "axcxx", 0, ["##", "#---#"], (1, 2), 5, ("unseeded", [1, 1, 3, 3, 4])), True)
        self.assertIs(shows("abcde", "axcxx", 0, ["#---#", "##"], (1, 2), 5, ("unseeded", [1, 1, 3, 3, 4])), False)
        self.assertIs(shows("abcde", "axcxx", 0, ["#---#", "##"], (1, 2), 5, ("unseeded", [4, 1, 1, 3, 4])), True)

    def test_the_same_seed_twice(self):
        self.assertIs(shows("abc", "xxx", 0, ["##", "##"], (1, 1), 2, ("unseeded", [0, 1, 1, 2])), True)
        self.assertIs(shows("abc", "xxx", 0, ["##", "##"], (1, 1), 2, ("unseeded", [0, 1])), False)

    def test_lanes_that_are_shorter_than_a_seed(self):
        for one, other, shift, seeds in (("ab", "ab", 0, ["###"]), ("", "", 0, ["##"]), ("abc", "abc", 3, ["#"]),
                                         ("abc", "abc", -3, ["#", "##"]), ("abc", "", -1, ["##"]),
                                         ("abc", "abc", FAR, ["##"]), ("abc", "abc", -FAR, ["##"])):
            self.assertIs(shows(one, other, shift, seeds, (1, 9), 8, ("unseeded", [])), True)
            for place in (-1, 0, 1, 2, shift, -shift):
                self.assertIs(shows(one, other, shift, seeds, (1, 9), 8, ("unseeded", [place])), False)

    def test_lanes_that_are_shorter_than_one_seed_alone(self):
        self.assertIs(shows("ab", "ax", 0, ["###", "##"], (1, 2), 3, ("unseeded", [1])), True)
        self.assertIs(shows("ab", "ax", 0, ["###", "##"], (1, 2), 3, ("unseeded", [1, 1])), False)
        self.assertIs(shows("ab", "ax", 0, ["###", "##"], (1, 2), 3, ("unseeded", [0])), False)


class Low(unittest.TestCase):
    def check(self, worth, told, expected):
        """Whether it shows so of the lane of shift 1 on which the greatest worth is 6."""
        paper = ("low", worth)
        self.assertIs(shows("abxxabcxxab", "zabyyabcyyab", 1, ["##"], (2, 9), told, paper), expected, (worth, told))

    def test_each_that_is_less_than_told_and_not_less_than_the_greatest(self):
        self.check(6, 7, True)
        for worth in range(6, 20):
            self.check(worth, 20, True)
        self.check(FAR - 1, FAR, True)

    def test_told_itself_and_more(self):
        self.check(7, 7, False)
        self.check(8, 7, False)
        self.check(20, 20, False)
        self.check(FAR, FAR, False)
        self.check(FAR, 7, False)

    def test_less_than_some_stretch_is_worth(self):
        for worth in (5, 4, 2, 1, 0, -1, -FAR):
            self.check(worth, 7, False)
            self.check(worth, 20, False)

    def test_where_what_is_told_is_reached(self):
        for told in (3, 4, 5, 6):
            for worth in (2, 3, 4, 5, 6, 7):
                self.check(worth, told, False)

    def test_where_no_seed_fits(self):
        for one, other in (("abcd", "axcx"), ("abcd", "xxxx"), ("a", "a"), ("", "")):
            for worth in (-1, 0, 1, 2, 3, 4):
                self.assertIs(shows(one, other, 0, ["##"], (1, 1), 4, ("low", worth)), False)

    def test_shifts_below_nought(self):
        for worth, expected in ((2, False), (3, True), (4, True), (5, False)):
            self.assertIs(shows("xxabc", "abc", -2, ["##"], (1, 1), 5, ("low", worth)), expected)


class AgainstAPlainWalk(unittest.TestCase):
    def check(self, one, other, shift, seeds, scale, told, paper):
        """The answer is that of the plain walk."""
        answer = shows(one, other, shift, seeds, scale, told, paper)
        self.assertIs(answer, plain_shows(one, other, shift, seeds, scale, told, paper),
                      (one, other, shift, seeds, scale, told, paper))
        return answer

    def test_what_lane_tells_shows_so(self):
        rows = all_texts("ab", 2) + ["bbaba", "abbab", "aabbcaabba", "cabbaccab"]
        forms = {}
        for seeds, scale in BARRED:
            limit = bar(seeds, scale)[1]
            for one, other in product(rows, repeat=2):
                for shift in range(-10, 11, 1 + len(one) // 2):
                    for told in (limit + 1, limit + scale[0] + 1):
                        paper = lane(one, other, shift, seeds, scale, told)
                        self.assertEqual(paper, plain_lane(one, other, shift, seeds, scale, told))
                        self.assertIs(shows(one, other, shift, seeds, scale, told, paper), True,
                                      (one, other, shift, seeds, scale, told))
                        forms[paper[0]] = forms.get(paper[0], 0) + 1
        self.assertGreater(min(forms[form] for form in ("reaches", "unseeded", "low")), 200)

    def test_papers_of_every_worth(self):
        answers = []
        for seeds, scale in BARRED:
            limit = bar(seeds, scale)[1]
            for one, other in product(("abbab", "babba", "aab", "b", ""), repeat=2):
                for shift in range(-4, 5):
                    for worth in range(-1, limit + 9):
                        answers.append(self.check(one, other, shift, seeds, scale, limit + 7, ("low", worth)))
        self.assertGreater(answers.count(True), 200)
        self.assertGreater(answers.count(False), 200)

    def test_papers_of_all_places(self):
        answers = []
        for seeds, scale in ((["##"], (1, 1)), (["#-#"], (1, 1)), (["###", "#--#"], (1, 5)), (["#", "##"], (1, 1))):
            told = bar(seeds, scale)[1] + 1
            for one, other in product(("abab", "bbba", "aba", "aa", ""), repeat=2):
                for shift in (-2, -1, 0, 1):
                    for many in range(4):
                        for unlike in product(range(-1, 5), repeat=many):
                            answers.append(self.check(one, other, shift, seeds, scale, told,
                                                      ("unseeded", list(unlike))))
        self.assertGreater(answers.count(True), 20)

    def test_papers_of_other_lanes(self):
        lanes = [(one, other, shift) for one, other in (("abbab", "babba"), ("abcab", "abcab"), ("cab", "abc"),
                                                        ("aabb", "ccaa"), ("", "ab"), ("abbab", "abcab"))
                 for shift in (-3, -2, -1, 0, 1, 2)]
        for seeds, scale in BARRED[:6]:
            told = bar(seeds, scale)[1] + 1
            for more in (0, 1, 4):
                papers = [lane(*place, seeds, scale, told + more) for place in lanes]
                for place in lanes:
                    for paper in papers:
                        self.check(*place, seeds, scale, told + more, paper)


class Refused(unittest.TestCase):
    def test_told_equal_to_the_bar_or_less(self):
        papers = (("reaches", []), ("reaches", [(0, 0, 9)]), ("unseeded", []), ("unseeded", [5, -FAR]), ("low", 0),
                  ("low", -1), ("low", FAR))
        for seeds, scale in BARRED:
            limit = bar(seeds, scale)
            for told in [limit[1] - 1, 0, -1, -FAR] + list(range(1, limit[1] + 1)):
                for one, other, shift in (("abcabcabc", "abcabcabc", 0), ("aaa", "bbb", 0), ("", "", 0), ("a", "a", 5)):
                    for paper in papers:
                        with self.subTest((seeds, told, one, paper)), self.assertRaises(TooLow) as caught:
                            shows(one, other, shift, seeds, scale, told, paper)
                        self.assertEqual(caught.exception.bar, limit)
            self.assertIs(shows("", "", 0, seeds, scale, limit[1] + 1, ("unseeded", [])), True)
            self.assertIs(shows("", "", 0, seeds, scale, limit[1] + 1, ("low", limit[1])), False)

    def test_where_there_is_no_bar(self):
        for seeds, scale in ENDLESS:
            for told in (0, 1, 9, 540, FAR):
                for paper in (("reaches", [(0, 0, 9)]), ("unseeded", []), ("low", 3)):
                    with self.subTest((seeds, told, paper)), self.assertRaises(TooLow) as caught:
                        shows("abcabcabc", "abcabcabc", 0, seeds, scale, told, paper)
                    self.assertEqual(caught.exception.bar, bar(seeds, scale))
                    self.assertEqual(caught.exception.bar[0], "endless")

    def test_bad_seed_ahead_of_too_low(self):
        for seeds in ([], ["#"] * 4, [""], ["#########"], ["#-"], ["-#"], ["-"], ["#", "#a#"], ["#", "##", " "]):
            for scale, told in (((1, 1), 0), ((9, 1), 1), ((1, 9), 100), ((1, 1), -FAR)):
                for paper in (("reaches", [(0, 0, 3)]), ("unseeded", [0]), ("low", 3)):
                    with self.subTest((seeds, told)), self.assertRaises(BadSeed):
                        shows("abc", "abc", 0, seeds, scale, told, paper)


class AskedAgain(unittest.TestCase):
    def test_nothing_that_is_handed_in_is_changed(self):
        seeds = ["##", "#--#"]
        for other, rows, expected in (("abcd", [(0, 0, 4)], True), ("abcd", [(0, 0, 3)], False), ("axcx", [], False)):
            paper = ("reaches", rows)
            kept = list(rows)
            self.assertIs(shows("abcd", other, 0, seeds, (1, 1), 2, paper), expected)
            self.assertEqual((seeds, paper), (["##", "#--#"], ("reaches", kept)))
        for unlike, expected in (([1, 1, 3, 3], True), ([1, 1, 3, 0], False), ([], False)):
            paper = ("unseeded", unlike)
            kept = list(unlike)
            self.assertIs(shows("abcd", "axcx", 0, seeds, (1, 1), 2, paper), expected)
            self.assertEqual((seeds, paper), (["##", "#--#"], ("unseeded", kept)))

    def test_the_lists_are_changed_behind_the_call(self):
        seeds, unlike = ["##"], [1, 1, 3]
        paper = ("unseeded", unlike)
        told = ("abcd", "axcx", 0, seeds, (1, 1), 2, paper)
        self.assertIs(shows(*told), True)
        unlike[2] = 2
        self.assertIs(shows(*told), False)
        unlike[2] = 3
        seeds.append("#-#")
        self.assertIs(shows(*told), False)
        seeds.pop()
        self.assertIs(shows(*told), True)
        self.assertIs(shows(*told), True)

    def test_what_lane_told_is_changed(self):
        for other, kept in (("abcd", ("reaches", [(0, 0, 4)])), ("axcx", ("unseeded", [1, 1, 3]))):
            paper = lane("abcd", other, 0, ["##"], (1, 1), 2)
            paper[1].pop()
            self.assertIs(shows("abcd", other, 0, ["##"], (1, 1), 2, paper), False)
            self.assertIs(shows("abcd", other, 0, ["##"], (1, 1), 2, kept), True)

    def test_defined_under_showing(self):
        self.assertEqual(shows.__module__, "seedreach.showing")
        self.assertIs(showing.shows, shows)


if __name__ == "__main__":
    unittest.main()
