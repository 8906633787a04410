"""Points 3, 4 and 5, of point 7 what likes are and what they are worth, and point 1 for all of these."""

import unittest

from seedreach import worths
from seedreach.worths import likes_of, reaches, ripe, worth_of
from tests.plain import all_texts, plain_likes, plain_reaches, plain_ripe, plain_standing, plain_worth

FAR = 10 ** 30
SCALES = ((1, 1), (1, 2), (2, 1), (2, 3), (3, 2), (1, 9), (9, 1), (4, 4), (5, 3))
# Texts of 28 pairs without any plain order, the same in every run.
LONG = tuple(f"{k * 0x9E3779B1 % 2 ** 28:028b}".replace("1", "=").replace("0", "/") for k in range(1, 40))


class Likes(unittest.TestCase):
    def test_at_shift_nought(self):
        self.assertEqual(likes_of("abcab", "abbab", 0), "==/==")
        self.assertEqual(likes_of("ab", "abab", 0), "==")
        self.assertEqual(likes_of("abab", "ab", 0), "==")
        self.assertEqual(likes_of("aaa", "bbb", 0), "///")

    def test_above_nought_the_second_row_begins_later(self):
        self.assertEqual(likes_of("abc", "cabc", 1), "===")
        self.assertEqual(likes_of("abcab", "abcab", 3), "==")
        self.assertEqual(likes_of("aab", "bab", 1), "=/")

    def test_below_nought_the_first_row_begins_later(self):
        self.assertEqual(likes_of("cabc", "abc", -1), "===")
        self.assertEqual(likes_of("abcab", "abcab", -3), "==")
        self.assertEqual(likes_of("bab", "aab", -1), "=/")

    def test_the_outermost_shifts_that_have_a_pair(self):
        self.assertEqual(likes_of("abc", "dbxa", 3), "=")
        self.assertEqual(likes_of("bbc", "dbxa", 3), "/")
        self.assertEqual(likes_of("abcd", "dxx", -3), "=")
        self.assertEqual(likes_of("abcd", "cxx", -3), "/")

    def test_shifts_that_have_none(self):
        for shift in (4, 5, 100, FAR, -3, -4, -100, -FAR):
            self.assertEqual(likes_of("abc", "aaaa", shift), "")

    def test_empty_rows(self):
        for one, other in (("", "abc"), ("abc", ""), ("", "")):
            for shift in (-FAR, -4, -3, -2, -1, 0, 1, 2, 3, 4, FAR):
                self.assertEqual(likes_of(one, other, shift), "")

    def test_against_the_pairs_of_places(self):
        rows = all_texts("ab", 4) + ["abcabc", "ccbbaa"]
        for one in rows:
            for other in rows:
                for shift in range(-8, 9):
                    self.assertEqual(likes_of(one, other, shift), plain_likes(one, other, shift), (one, other, shift))

    def test_longest_rows(self):
        one, other = "ab" * 30, "ba" * 30
        self.assertEqual(likes_of(one, other, 0), "/" * 60)
        self.assertEqual(likes_of(one, other, 1), "=" * 59)
        self.assertEqual(likes_of(one, other, -1), "=" * 59)
        self.assertEqual(likes_of(one, other, 59), "=")
        self.assertEqual(likes_of(one, other, -59), "=")
        self.assertEqual(likes_of(one, other, 60), "")
        self.assertEqual(likes_of(one, other, -60), "")


class Worth(unittest.TestCase):
    def test_of_likes(self):
        self.assertEqual(worth_of("=", (3, 5)), 3)
        self.assertEqual(worth_of("==/=", (2, 3)), 3)
        self.assertEqual(worth_of("=/=/", (9, 1)), 16)
        self.assertEqual(worth_of("=/", (4, 4)), 0)
        self.assertEqual(worth_of("=" * 60, (9, 9)), 540)

    def test_of_the_empty_text(self):
        self.assertEqual(worth_of("", (9, 1)), 0)
        self.assertEqual(worth_of(likes_of("", "ab", 0), (1, 1)), 0)

    def test_of_none_but_unlike_pairs(self):
        self.assertEqual(worth_of("/", (9, 1)), -1)
        self.assertEqual(worth_of("///", (1, 9)), -27)

    def test_of_likes_cut_to_pieces(self):
        likes = "==/=//===/="
        for scale in SCALES:
            for at in range(len(likes) + 1):
                self.assertEqual(worth_of(likes[:at], scale) + worth_of(likes[at:], scale), worth_of(likes, scale))

    def test_against_pair_by_pair(self):
        for likes in all_texts("=/", 7):
            for scale in SCALES:
                self.assertEqual(worth_of(likes, scale), plain_worth(likes, scale))


class Ripe(unittest.TestCase):
    def test_a_loss_that_uses_up_the_gain_parts_two(self):
        self.assertEqual(ripe("=/=", (1, 1)), [(0, 1), (2, 3)])
        self.assertEqual(ripe("=/=", (7, 7)), [(0, 1), (2, 3)])
        self.assertEqual(ripe("=/=", (2, 1)), [(0, 3)])
        self.assertEqual(ripe("=/=", (1, 2)), [(0, 1), (2, 3)])

    def test_several_losses_that_use_up_several_gains_part_two(self):
        self.assertEqual(ripe("==//==", (1, 1)), [(0, 2), (4, 6)])
        self.assertEqual(ripe("===//===", (2, 3)), [(0, 3), (5, 8)])
        self.assertEqual(ripe("=///=", (3, 1)), [(0, 1), (4, 5)])
        self.assertEqual(ripe("=//=", (3, 1)), [(0, 4)])
        self.assertEqual(ripe("==/=", (1, 1)), [(0, 2), (3, 4)])
        self.assertEqual(ripe("=/==", (1, 1)), [(0, 1), (2, 4)])

    def test_a_longer_one_over_several_shorter_ones(self):
        self.assertEqual(ripe("==/==", (1, 1)), [(0, 5)])
        self.assertEqual(ripe("==/==/==", (1, 1)), [(0, 8)])
        self.assertEqual(ripe("==/=/==", (1, 1)), [(0, 7)])
        self.assertEqual(ripe("===/=//====", (1, 1)), [(0, 11)])

    def test_what_lies_ahead_of_a_lower_place_is_left_out(self):
        self.assertEqual(ripe("=//==/==", (1, 1)), [(0, 1), (3, 8)])
        self.assertEqual(ripe("==/==///==", (1, 1)), [(0, 5), (8, 10)])

    def test_unlike_pairs_at_the_ends_are_left_out(self):
        self.assertEqual(ripe("//==//", (9, 1)), [(2, 4)])

    def test_none_but_like_ones(self):
        self.assertEqual(ripe("=", (1, 9)), [(0, 1)])
        self.assertEqual(ripe("=" * 60, (1, 9)), [(0, 60)])

    def test_none_but_unlike_ones(self):
        self.assertEqual(ripe("/", (9, 1)), [])
        self.assertEqual(ripe("/" * 60, (9, 1)), [])

    def test_none_at_all(self):
        self.assertEqual(ripe("", (1, 1)), [])

    def test_against_a_plain_walk(self):
        for likes in all_texts("=/", 9):
            for scale in SCALES:
                self.assertEqual(ripe(likes, scale), plain_ripe(likes, scale), (likes, scale))

    def test_against_a_plain_walk_over_longer_likes(self):
        for likes in LONG:
            for scale in ((1, 1), (2, 1), (1, 2), (3, 2)):
                self.assertEqual(ripe(likes, scale), plain_ripe(likes, scale), (likes, scale))

    def test_no_place_in_common_and_ascending(self):
        for likes in all_texts("=/", 9) + list(LONG):
            for scale in ((1, 1), (2, 1), (2, 3), (3, 2)):
                told = ripe(likes, scale)
                ends = [place for stretch in told for place in stretch]
                self.assertEqual(ends, sorted(ends))
                for begin, end in told:
                    self.assertLess(begin, end)

    def test_each_that_stands_by_itself_lies_in_one(self):
        for likes in all_texts("=/", 9):
            for scale in ((1, 1), (2, 1), (2, 3), (3, 2)):
                told = ripe(likes, scale)
                for begin, end in plain_standing(likes, scale):
                    self.assertEqual(sum(low <= begin and end <= high for low, high in told), 1, (likes, scale))

    def test_kinds_of_values(self):
        told = ripe("==/==//=", (1, 1))
        self.assertIs(told.__class__, list)
        for stretch in told:
            self.assertIs(stretch.__class__, tuple)
            self.assertEqual([place.__class__ for place in stretch], [int, int])


class Reaches(unittest.TestCase):
    def test_over_all_shifts_ascending(self):
        self.assertEqual(reaches("ab", "ab", (1, 1), 1), [(0, 0, 2)])
        self.assertEqual(reaches("aa", "aa", (1, 1), 1), [(-1, 1, 2), (0, 0, 2), (1, 0, 1)])
        self.assertEqual(reaches("aba", "aba", (1, 1), 1),
                         [(-2, 2, 3), (0, 0, 3), (2, 0, 1)])

    def test_places_are_those_of_the_first_row(self):
        self.assertEqual(reaches("bbaca", "aca", (1, 1), 3), [(-2, 2, 5)])
        self.assertEqual(reaches("aca", "bbaca", (1, 1), 3), [(2, 0, 3)])
        self.assertEqual(reaches("bbbac", "dac", (1, 1), 2), [(-2, 3, 5)])

    def test_several_of_one_lane(self):
        self.assertEqual(reaches("abcd", "abxd", (1, 1), 1), [(0, 0, 2), (0, 3, 4)])
        self.assertEqual(reaches("xabcd", "abxd", (1, 1), 1), [(-1, 1, 3), (-1, 4, 5), (2, 0, 1)])

    def test_told_that_is_come_to_just_so(self):
        self.assertEqual(reaches("abcd", "abxd", (3, 4), 6), [(0, 0, 2)])
        self.assertEqual(reaches("abcd", "abxd", (3, 4), 5), [(0, 0, 2)])
        self.assertEqual(reaches("abcd", "abxd", (3, 4), 7), [])
        self.assertEqual(reaches("abcd", "abxd", (3, 2), 7), [(0, 0, 4)])
        self.assertEqual(reaches("abcd", "abxd", (3, 2), 8), [])

    def test_told_that_nothing_comes_to(self):
        self.assertEqual(reaches("abcd", "abcd", (1, 1), 5), [])
        self.assertEqual(reaches("a" * 60, "a" * 60, (9, 1), 541), [])
        self.assertEqual(reaches("a" * 60, "a" * 60, (9, 1), 540), [(0, 0, 60)])
        self.assertEqual(reaches("aaa", "bbb", (9, 1), 1), [])
        self.assertEqual(reaches("abcd", "abcd", (1, 1), FAR), [])

    def test_empty_rows(self):
        for one, other in (("", ""), ("", "abc"), ("abc", ""), ("a", ""), ("", "a")):
            self.assertEqual(reaches(one, other, (1, 1), 1), [])

    def test_the_outermost_shifts_count(self):
        self.assertEqual(reaches("abb", "cca", (1, 1), 1), [(2, 0, 1)])
        self.assertEqual(reaches("bba", "acc", (1, 1), 1), [(-2, 2, 3)])

    def test_against_a_plain_walk_over_all_lanes(self):
        rows = all_texts("ab", 4)
        for one in rows:
            for other in rows:
                for scale, told in (((1, 1), 1), ((2, 1), 2), ((2, 3), 4)):
                    self.assertEqual(reaches(one, other, scale, told), plain_reaches(one, other, scale, told),
                                     (one, other, scale, told))

    def test_against_a_plain_walk_over_longer_rows(self):
        rows = ("abcabcab", "abacabad", "aabbaabbaa", "cabbac", "abababababa", "a")
        for one in rows:
            for other in rows:
                for scale in ((1, 1), (2, 1), (3, 2), (1, 3)):
                    for told in (1, 2, 3, 5, 8):
                        self.assertEqual(reaches(one, other, scale, told), plain_reaches(one, other, scale, told),
                                         (one, other, scale, told))

    def test_kinds_of_values(self):
        told = reaches("aab", "aba", (1, 1), 1)
        self.assertIs(told.__class__, list)
        for stretch in told:
            self.assertIs(stretch.__class__, tuple)
            self.assertEqual([part.__class__ for part in stretch], [int, int, int])


class AskedAgain(unittest.TestCase):
    def test_ripe_is_not_changed_by_whoever_has_its_list(self):
        for likes in ("==/==//=", "", "/", "="):
            first = ripe(likes, (1, 1))
            kept = list(first)
            first.append((7, 8))
            first[0] = (0, 99)
            self.assertEqual(ripe(likes, (1, 1)), kept)
            first.clear()
            self.assertEqual(ripe(likes, (1, 1)), kept)

    def test_reaches_is_not_changed_by_whoever_has_its_list(self):
        for one, other in (("aab", "aba"), ("", ""), ("a", "b")):
            first = reaches(one, other, (1, 1), 1)
            kept = list(first)
            first.append((7, 8, 9))
            first[0] = (0, 0, 99)
            self.assertEqual(reaches(one, other, (1, 1), 1), kept)
            first.clear()
            self.assertEqual(reaches(one, other, (1, 1), 1), kept)

    def test_texts_and_numbers_are_the_same_again(self):
        for _ in range(3):
            self.assertEqual(likes_of("abc", "bcb", -1), "==")
            self.assertEqual(worth_of("==/", (2, 3)), 1)
            self.assertEqual(worth_of("==/", (3, 2)), 4)

    def test_each_is_defined_under_worths(self):
        for told in (likes_of, worth_of, ripe, reaches):
            self.assertEqual(told.__module__, "seedreach.worths")
            self.assertIs(getattr(worths, told.__name__), told)


if __name__ == "__main__":
    unittest.main()
