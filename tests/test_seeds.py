"""Points 6 and 7, and point 1 for these."""

import time
import unittest
from itertools import combinations_with_replacement, product

from seedreach import seeds as module
from seedreach.errors import BadSeed
from seedreach.seeds import bar, fits, is_seeded, need_seeds
from tests.plain import all_texts, free_texts, is_ring, plain_fits, plain_seeded, plain_worth

FAR = 10 ** 30
SCALES = ((1, 1), (1, 2), (2, 1), (2, 3), (3, 2), (1, 9), (9, 1))
# Every seed of up to four signs, and every list of one or two of them; of three, some.
SHORT = ("#", "##", "#-#", "###", "#--#", "#-##", "##-#", "####")
LISTS = ([[seed] for seed in SHORT] + [list(pair) for pair in combinations_with_replacement(SHORT[1:], 2)]
         + [["#-#", "#--#", "####"], ["#-##", "##-#", "####"], ["#--#", "###", "#-##"], ["####", "##-#", "#--#"],
            ["##", "#-#", "#--#"], ["####", "####", "####"], ["#--#", "#", "##"]])
# Three seeds of eight signs at once, some sparse and some full.
LONG_LISTS = (["########"] * 3, ["#------#"] * 3, ["#------#", "##-----#", "########"],
              ["#-#-##-#", "##--##-#", "#-##-###"], ["####-###", "###-####", "##-#####"],
              ["#---#--#", "#--#---#", "##-----#"], ["#-----##", "#----#-#", "#--#---#"],
              ["###--#-#", "#-#--###", "#-####-#"])


class NeedSeeds(unittest.TestCase):
    def test_of_one_and_of_eight_signs(self):
        for seeds in (["#"], ["########"], ["#------#"], ["#-#-#-##"], ["#-#"], ["##"]):
            with self.subTest(seeds):
                self.assertIsNone(need_seeds(seeds))

    def test_every_one_of_up_to_eight_signs(self):
        self.assertIsNone(need_seeds(["#"]))
        for many in range(7):
            for inner in product("#-", repeat=many):
                self.assertIsNone(need_seeds(["#" + "".join(inner) + "#"]))

    def test_lists_of_one_to_three(self):
        self.assertIsNone(need_seeds(["#-#"]))
        self.assertIsNone(need_seeds(["#-#", "##"]))
        self.assertIsNone(need_seeds(["#", "########", "#-#"]))

    def test_the_same_seed_twice(self):
        self.assertIsNone(need_seeds(["#-#", "#-#"]))
        self.assertIsNone(need_seeds(["##", "#", "##"]))
        self.assertIsNone(need_seeds(["##", "##", "##"]))

    def test_none_and_four_are_refused(self):
        for seeds in ([], ["#"] * 4, ["#", "##", "###", "####"], ["#"] * 5):
            with self.subTest(seeds), self.assertRaises(BadSeed):
                need_seeds(seeds)

    def test_each_wrong_seed_is_refused_wherever_it_stands(self):
        wrong = ("", "#########", "#-------#", "#" * 10, "-", "--", "-#", "#-", "-#-", "-##", "##-", "-------#",
                 "a", "#a#", "a#", "#a", "#=#", "#/#", "# #", " ##", "## ", "#\n", "#_#", "# ", "#0#", "\uff03",
                 "#\u2013#")
        for seed in wrong:
            for seeds in ([seed], [seed, "#"], ["#", seed], ["#", "##", seed], ["#", seed, "##"], [seed] * 3):
                with self.subTest(seeds), self.assertRaises(BadSeed):
                    need_seeds(seeds)


class Fits(unittest.TestCase):
    def test_where_it_lies_within_the_likes(self):
        self.assertEqual([fits("##", "==/==", place) for place in range(-3, 8)],
                         [False, False, False, True, False, False, True, False, False, False, False])

    def test_at_the_end_and_one_place_further_on(self):
        for seed in ("#", "##", "#-#", "########", "#------#"):
            likes = "=" * 12
            last = len(likes) - len(seed)
            self.assertIs(fits(seed, likes, last), True)
            self.assertIs(fits(seed, likes, last + 1), False)
            self.assertIs(fits(seed, likes, 0), True)
            self.assertIs(fits(seed, likes, -1), False)

    def test_just_as_long_as_the_likes(self):
        self.assertIs(fits("#-#", "=/=", 0), True)
        self.assertIs(fits("#-#", "=/", 0), False)
        self.assertIs(fits("#", "", 0), False)

    def test_far_beyond_either_end(self):
        for place in (FAR, -FAR, 100, -100, 5, -5, -4, -2):
            self.assertIs(fits("#", "====", place), False)
            self.assertIs(fits("#-#", "====", place), False)

    def test_a_gap_lies_over_either_pair(self):
        for inner in product("=/", repeat=2):
            self.assertIs(fits("#--#", "=" + "".join(inner) + "=", 0), True)
        self.assertIs(fits("#-#", "/=/=/", 1), True)
        self.assertIs(fits("#-#", "/=/=/", 0), False)
        self.assertIs(fits("#-#", "/=/=/", 2), False)

    def test_each_pick_needs_a_like_pair(self):
        self.assertIs(fits("###", "===", 0), True)
        for likes in ("/==", "=/=", "==/", "///"):
            self.assertIs(fits("###", likes, 0), False)

    def test_against_place_by_place(self):
        for seed in SHORT + ("#-#-#", "##--#"):
            for likes in all_texts("=/", 6):
                for place in range(-6, 9):
                    self.assertIs(fits(seed, likes, place), plain_fits(seed, likes, place), (seed, likes, place))


class IsSeeded(unittest.TestCase):
    def test_the_empty_text(self):
        for seeds in (["#"], ["########"], ["#", "##", "#-#"]):
            self.assertIs(is_seeded(seeds, ""), False)

    def test_where_the_last_place_alone_fits(self):
        self.assertIs(is_seeded(["##"], "=/=/=="), True)
        self.assertIs(is_seeded(["##"], "=/=/=/"), False)
        self.assertIs(is_seeded(["#"], "/////="), True)
        self.assertIs(is_seeded(["########"], "/========"), True)
        self.assertIs(is_seeded(["########"], "/======="), False)

    def test_where_the_first_place_alone_fits(self):
        self.assertIs(is_seeded(["##"], "==/=/"), True)
        self.assertIs(is_seeded(["#"], "=////"), True)

    def test_where_the_last_seed_alone_fits(self):
        self.assertIs(is_seeded(["###", "####", "#-#"], "=/="), True)
        self.assertIs(is_seeded(["###", "####", "#"], "/="), True)
        self.assertIs(is_seeded(["###", "####", "##"], "=/="), False)

    def test_where_the_first_seed_alone_fits(self):
        self.assertIs(is_seeded(["#-#", "###", "####"], "=/="), True)

    def test_a_seed_longer_than_the_likes(self):
        self.assertIs(is_seeded(["#------#"], "======="), False)
        self.assertIs(is_seeded(["#------#", "##"], "======="), True)

    def test_against_every_place(self):
        for seeds in LISTS:
            for likes in all_texts("=/", 6):
                self.assertIs(is_seeded(seeds, likes), plain_seeded(seeds, likes), (seeds, likes))


class BarByHand(unittest.TestCase):
    def test_one_pick_lets_no_like_pair_be(self):
        for scale in product((1, 5, 9), repeat=2):
            for seeds in (["#"], ["#", "#"], ["#", "########", "#-#"], ["########", "#-#", "#"]):
                self.assertEqual(bar(seeds, scale), ("bar", 0, ""))

    def test_so_many_picks_in_a_row(self):
        # One fewer than the picks may be like in a row; a ring of these and one unlike pair.
        for many in range(2, 9):
            for gain, loss in product(range(1, 10), repeat=2):
                told = bar(["#" * many], (gain, loss))
                if (many - 1) * gain > loss:
                    check_endless(self, ["#" * many], (gain, loss), told)
                else:
                    self.assertEqual(told, ("bar", (many - 1) * gain, "=" * (many - 1)))

    def test_two_picks_so_far_apart(self):
        # As many pairs as they are apart may be like in a row, then as many are unlike.
        for apart in range(1, 8):
            seeds = ["#" + "-" * (apart - 1) + "#"]
            for gain, loss in ((1, 1), (1, 2), (2, 1), (3, 3), (5, 4), (4, 5), (9, 9), (9, 8)):
                told = bar(seeds, (gain, loss))
                if gain > loss:
                    check_endless(self, seeds, (gain, loss), told)
                else:
                    self.assertEqual(told, ("bar", apart * gain, "=" * apart))

    def test_with_a_longer_one_in_which_it_fits(self):
        for short, long in (("##", "###"), ("#-#", "#-#-#"), ("#--#", "##--##"), ("#-#", "#-####-#"),
                            ("#--#", "#--#--#")):
            for scale in SCALES:
                alone = bar([short], scale)
                for seeds in ([short, long], [long, short], [long, short, long], [short, short, long]):
                    told = bar(seeds, scale)
                    if alone[0] == "bar":
                        self.assertEqual(told, alone)
                    else:
                        check_endless(self, seeds, scale, told)

    def test_likes_that_have_an_unlike_pair(self):
        # No two like pairs may be as far apart as the two picks of a seed; other ones may.
        self.assertEqual(bar(["##", "#-#"], (3, 4)), ("bar", 3, "="))
        self.assertEqual(bar(["##", "#-#"], (1, 1)), ("bar", 1, "="))
        self.assertEqual(bar(["##", "#--#"], (3, 4)), ("bar", 3, "="))
        self.assertEqual(bar(["##", "#---#"], (4, 3)), ("bar", 5, "=/="))
        self.assertEqual(bar(["##", "#-#", "#-----#"], (9, 4)), ("bar", 10, "=//="))
        check_endless(self, ["##", "#--#"], (4, 3), bar(["##", "#--#"], (4, 3)))
        check_endless(self, ["##", "#-#", "#---#"], (9, 4), bar(["##", "#-#", "#---#"], (9, 4)))

    def test_of_several_the_first_one(self):
        for seeds, scale, worth, several in (
                (["###", "#---#", "#----#"], (7, 5), 16, ["==/=", "=/=="]),
                (["###", "#---#", "#-#--#"], (9, 7), 20, ["==/=", "=/=="]),
                (["####", "#-----#", "#----#"], (9, 7), 29, ["===/=", "==/==", "=/==="]),
                (["####", "#-----#", "#-#----#"], (4, 5), 15, ["===/==", "==/==="]),
                (["###", "#------#", "#---#-#"], (6, 5), 20, ["==/=/==", "=/==/=="])):
            free = free_texts(seeds, len(several[0]))
            self.assertEqual([text for text in free if plain_worth(text, scale) == worth], several)
            for order in (seeds, seeds[::-1]):
                self.assertEqual(bar(order, scale), ("bar", worth, several[0]))
                check_bar(self, order, scale, bar(order, scale), free_texts(order, 14))

    def test_a_ring_worth_just_nought_is_no_endless_one(self):
        self.assertEqual(bar(["##"], (1, 1)), ("bar", 1, "="))
        self.assertEqual(bar(["##"], (9, 9)), ("bar", 9, "="))
        self.assertEqual(bar(["###"], (1, 2)), ("bar", 2, "=="))
        self.assertEqual(bar(["####"], (3, 9)), ("bar", 9, "==="))
        self.assertEqual(bar(["########"], (1, 7)), ("bar", 7, "======="))
        self.assertEqual(bar(["#------#"], (6, 6)), ("bar", 42, "======="))

    def test_a_ring_worth_just_more_than_nought_is_one(self):
        for seeds, scale in ((["##"], (9, 8)), (["###"], (2, 3)), (["####"], (3, 8)), (["########"], (1, 6)),
                             (["#------#"], (9, 8))):
            check_endless(self, seeds, scale, bar(seeds, scale))


def check_endless(case, seeds, scale, told):
    """In ahead and so many rings no seed fits, and the ring is worth more than 0."""
    case.assertIs(told.__class__, tuple)
    word, ahead, ring = told
    case.assertEqual(word, "endless")
    case.assertEqual((ahead.__class__, ring.__class__), (str, str))
    case.assertEqual(set(ahead + ring) - {"=", "/"}, set())
    case.assertGreater(plain_worth(ring, scale), 0, (seeds, scale, told))
    for often in list(range(11)) + [30]:
        case.assertFalse(plain_seeded(seeds, ahead + ring * often), (seeds, scale, told))


def check_bar(case, seeds, scale, told, free):
    """Of all free texts none is worth more, and the first shortest one of that worth is told."""
    case.assertIs(told.__class__, tuple)
    word, worth, likes = told
    case.assertEqual(word, "bar")
    case.assertEqual((worth.__class__, likes.__class__), (int, str))
    worths = [plain_worth(text, scale) for text in free]
    case.assertEqual(max(worths), worth, (seeds, scale, told))
    # They come shorter ones first, = ahead of /.
    case.assertEqual(free[worths.index(worth)], likes, (seeds, scale, told))


class BarAgainstAPlainWalk(unittest.TestCase):
    def test_all_short_seeds(self):
        # Where no seed has more than four signs, the last three pairs tell how likes may go on. So if there
        # is an endless ring, there is one of eight pairs at most; if none, seven are enough for the greatest worth.
        for seeds in LISTS:
            free = free_texts(seeds, 10)
            rings = [ring for ring in free if 0 < len(ring) <= 8 and is_ring(seeds, ring, 2 + 3 // len(ring))]
            for scale in SCALES:
                told = bar(seeds, scale)
                if any(plain_worth(ring, scale) > 0 for ring in rings):
                    check_endless(self, seeds, scale, told)
                else:
                    check_bar(self, seeds, scale, told, free)

    def test_both_forms_come_up(self):
        words = [bar(seeds, scale)[0] for seeds in LISTS for scale in SCALES]
        self.assertGreater(words.count("bar"), 50)
        self.assertGreater(words.count("endless"), 50)


def worth_after(seeds, scale, rounds):
    """The greatest worth of free texts of each length, forward by the last seven pairs; for seeds of up to eight."""
    best = {"": 0}
    greatest = [0]
    for _ in range(rounds):
        longer = {}
        for tail, worth in best.items():
            for pair, weight in (("=", scale[0]), ("/", -scale[1])):
                likes = tail + pair
                if not any(plain_fits(seed, likes, len(likes) - len(seed)) for seed in seeds):
                    longer[likes[-7:]] = max(worth + weight, longer.get(likes[-7:], -FAR))
        best = longer
        greatest.append(max(best.values()))
    return greatest


class BarOfLongSeeds(unittest.TestCase):
    def test_three_of_eight_signs_in_a_short_time(self):
        for seeds in LONG_LISTS:
            for scale in ((1, 1), (1, 6), (1, 7), (9, 8), (2, 3), (1, 2), (9, 1), (1, 9)):
                begun = time.process_time()
                told = bar(seeds, scale)
                self.assertLess(time.process_time() - begun, 5, (seeds, scale))
                self.assertEqual(told[0], bar(seeds[::-1], scale)[0])
                if told[0] == "endless":
                    check_endless(self, seeds, scale, told)

    def test_told_just_where_there_is_no_greatest_worth(self):
        for seeds in LONG_LISTS:
            for scale in ((1, 1), (1, 2), (1, 5), (1, 7), (4, 9)):
                told = bar(seeds, scale)
                if told[0] == "bar":
                    greatest = worth_after(seeds, scale, 260)
                    self.assertEqual(max(greatest), told[1], (seeds, scale, told))
                    self.assertEqual(greatest.index(told[1]), len(told[2]), (seeds, scale, told))
                    self.assertEqual(plain_worth(told[2], scale), told[1])
                    self.assertFalse(plain_seeded(seeds, told[2]))

    def test_both_forms_come_up(self):
        words = [bar(seeds, scale)[0] for seeds in LONG_LISTS for scale in ((1, 1), (1, 2), (1, 5), (1, 7), (4, 9))]
        self.assertGreater(words.count("bar"), 5)
        self.assertGreater(words.count("endless"), 5)

    def test_the_same_worth_for_seeds_turned_round(self):
        for seeds in LONG_LISTS:
            for scale in ((1, 7), (1, 5), (1, 3)):
                told = bar(seeds, scale)
                turned = bar([seed[::-1] for seed in seeds], scale)
                self.assertEqual(told[0], turned[0])
                if told[0] == "bar":
                    self.assertEqual((told[1], len(told[2])), (turned[1], len(turned[2])))

    def test_beyond_the_limits_no_error_is_raised(self):
        self.assertEqual(bar(["#" * 9], (1, 9)), ("bar", 8, "=" * 8))
        self.assertEqual(bar(["##", "###", "####", "#####"], (1, 1)), ("bar", 1, "="))
        check_endless(self, ["#" * 10], (10, 12), bar(["#" * 10], (10, 12)))
        check_endless(self, [], (1, 1), bar([], (1, 1)))


class AskedAgain(unittest.TestCase):
    def test_seeds_are_not_changed(self):
        seeds = ["##", "#-#", "##"]
        need_seeds(seeds)
        is_seeded(seeds, "=/=//==")
        bar(seeds, (1, 2))
        bar(seeds, (9, 1))
        self.assertEqual(seeds, ["##", "#-#", "##"])

    def test_the_same_answers_again(self):
        for seeds in LISTS[:12]:
            for scale in SCALES:
                first = bar(seeds, scale)
                changed = list(seeds)
                self.assertEqual(bar(changed, scale), first)
                changed[0] = "#"
                changed.append("#")
                self.assertEqual(bar(changed, scale), ("bar", 0, ""))
                self.assertEqual(bar(seeds, scale), first)
                self.assertIs(is_seeded(seeds, "=/=/"), plain_seeded(seeds, "=/=/"))

    def test_each_is_defined_under_seeds(self):
        for told in (need_seeds, fits, is_seeded, bar):
            self.assertEqual(told.__module__, "seedreach.seeds")
            self.assertIs(getattr(module, told.__name__), told)


if __name__ == "__main__":
    unittest.main()
