"""Point 2: letters, rows and scales."""

import unittest

from seedreach.errors import BadRow
from seedreach.rows import need_letters, need_row, need_scale


class Letters(unittest.TestCase):
    def test_two_to_six_are_taken(self):
        for letters in ("ab", "za", "acgt", "abc", "vwxyz", "abcdef", "uvwxyz", "fedcba", "mn"):
            with self.subTest(letters):
                self.assertIsNone(need_letters(letters))

    def test_each_small_letter_is_taken(self):
        for code in range(ord("a"), ord("z")):
            self.assertIsNone(need_letters(chr(code) + chr(code + 1)))

    def test_too_few_or_too_many_are_refused(self):
        for letters in ("", "a", "z", "abcdefg", "abcdefghijklmnopqrstuvwxyz"):
            with self.subTest(letters), self.assertRaises(BadRow):
                need_letters(letters)

    def test_a_letter_twice_is_refused(self):
        for letters in ("aa", "aba", "abb", "abcdea", "abccde", "zz"):
            with self.subTest(letters), self.assertRaises(BadRow):
                need_letters(letters)

    def test_a_sign_that_is_no_small_letter_is_refused(self):
        for sign in ("A", "Z", "0", "9", " ", "\n", "#", "-", "_", "`", "{", "\u00e4", "\u00df", "\u0430", "\u00aa"):
            for letters in (sign + "b", "b" + sign, "ab" + sign + "c"):
                with self.subTest(letters), self.assertRaises(BadRow):
                    need_letters(letters)


class Rows(unittest.TestCase):
    def test_none_to_sixty_signs_are_taken(self):
        for row in ("", "a", "b", "ab", "ba", "aaaa", "ab" * 29 + "a", "ab" * 30, "b" * 60):
            with self.subTest(row):
                self.assertIsNone(need_row(row, "ab"))

    def test_all_of_six_letters_are_taken(self):
        self.assertIsNone(need_row("abcdef" * 10, "fedcba"))

    def test_more_than_sixty_signs_are_refused(self):
        for row in ("a" * 61, "ab" * 31, "a" * 1000):
            with self.subTest(len(row)), self.assertRaises(BadRow):
                need_row(row, "ab")

    def test_a_sign_that_is_none_of_the_letters_is_refused(self):
        for row in ("c", "cab", "acb", "abc", "aA", "A", "a b", " ", "ab\n", "a1", "b" * 59 + "c"):
            with self.subTest(row), self.assertRaises(BadRow):
                need_row(row, "ab")


class Scales(unittest.TestCase):
    def test_one_to_nine_are_taken(self):
        for gain in range(1, 10):
            for loss in range(1, 10):
                self.assertIsNone(need_scale((gain, loss)))

    def test_others_are_refused_at_either_and_both_places(self):
        for wrong in (0, 10, 11, -1, -9, 10 ** 30, -10 ** 30):
            for scale in ((wrong, 1), (wrong, 9), (1, wrong), (9, wrong), (wrong, wrong)):
                with self.subTest(scale), self.assertRaises(BadRow):
                    need_scale(scale)


class AskedAgain(unittest.TestCase):
    def test_the_same_answer(self):
        for _ in range(3):
            self.assertIsNone(need_letters("ab"))
            self.assertIsNone(need_row("abba", "ab"))
            self.assertIsNone(need_scale((1, 9)))
            for refused in (lambda: need_letters("a"), lambda: need_row("c", "ab"), lambda: need_scale((0, 1))):
                self.assertRaises(BadRow, refused)


if __name__ == "__main__":
    unittest.main()
