"""How long one waits for a word, and what a share is: points 5 and 9."""

import itertools
import math
import unittest
from fractions import Fraction

from wordrace.races import mean, waiting


def waited(die, word):
    """The sum of the worths by the document's words, over the beginnings with which the word ends."""
    together = Fraction(0)
    for many in range(1, len(word) + 1):
        if word[:many] == word[len(word) - many:]:
            worth = Fraction(1)
            for sign in word[:many]:
                worth *= Fraction(sum(die), die["abcd".index(sign)])
            together += worth
    return (together.numerator, together.denominator)


class Waiting(unittest.TestCase):
    def test_of_one_sign(self):
        for die, word, expected in (
            ([1, 1], "a", (2, 1)), ([1, 1], "b", (2, 1)), ([3, 1], "a", (4, 3)), ([3, 1], "b", (4, 1)),
            ([9, 1], "a", (10, 9)), ([9, 1], "b", (10, 1)), ([1, 1, 1], "c", (3, 1)), ([2, 3, 5], "b", (10, 3)),
            ([1, 2, 3, 4], "a", (10, 1)), ([1, 2, 3, 4], "c", (10, 3)), ([1, 2, 3, 4], "d", (5, 2)),
            ([9, 9, 9, 1], "d", (28, 1)),
        ):
            with self.subTest(die=die, word=word):
                self.assertEqual(waiting(die, word), expected)

    def test_of_one_sign_again_and_again(self):
        for many, expected in enumerate((2, 6, 14, 30, 62, 126), start=1):
            with self.subTest(many=many):
                self.assertEqual(waiting([1, 1], "a" * many), (expected, 1))
                self.assertEqual(waiting([7, 7], "b" * many), (expected, 1))
        self.assertEqual(waiting([1, 1, 1, 1], "cccccc"), (4 + 16 + 64 + 256 + 1024 + 4096, 1))
        self.assertEqual(waiting([3, 1], "bbbbbb"), (5460, 1))
        self.assertEqual(waiting([3, 1], "aaaaaa"), (13468, 729))
        self.assertEqual(waiting([1, 9, 9, 9], "aaaaaa"), (sum(28 ** many for many in range(1, 7)), 1))

    def test_of_words_without_overlaps_but_the_whole(self):
        for die, word, expected in (
            ([1, 1], "ab", (4, 1)), ([1, 1], "aab", (8, 1)), ([1, 1], "aaaaab", (64, 1)), ([3, 1], "ab", (16, 3)),
            ([3, 1], "aab", (64, 9)), ([1, 2, 3], "abc", (36, 1)), ([1, 2, 3, 4], "abcd", (1250, 3)),
        ):
            with self.subTest(die=die, word=word):
                self.assertEqual(waiting(die, word), expected)

    def test_of_words_with_overlaps(self):
        for die, word, expected in (
            ([1, 1], "aba", (10, 1)), ([1, 1], "abab", (20, 1)), ([1, 1], "abaaba", (74, 1)),
            ([1, 1], "ababab", (84, 1)), ([1, 1], "aabaa", (38, 1)), ([3, 1], "aa", (28, 9)), ([3, 1], "bb", (20, 1)),
            # The worth of the beginning is meant: a alone is worth 4/3, and aba is worth 64/9.
            ([3, 1], "aba", (76, 9)), ([1, 3], "aba", (76, 3)),
        ):
            with self.subTest(die=die, word=word):
                self.assertEqual(waiting(die, word), expected)

    def test_of_all_short_words(self):
        for die, most in (
            ([1, 1], 6), ([3, 1], 6), ([2, 4], 6), ([9, 8], 6), ([1, 2, 3], 4), ([6, 3, 9], 4), ([5, 1, 2, 7], 3),
            ([2, 4, 6, 8], 3),
        ):
            for many in range(1, most + 1):
                for signs in itertools.product("abcd"[:len(die)], repeat=many):
                    word = "".join(signs)
                    self.assertEqual(waiting(die, word), waited(die, word), (die, word))

    def test_is_the_mean_of_the_race_of_one_word_behind_no_throw(self):
        for die, most in (([1, 1], 6), ([3, 1], 5), ([2, 9], 4), ([1, 2, 3], 3), ([4, 4, 1], 3), ([5, 1, 2, 7], 2)):
            for many in range(1, most + 1):
                for signs in itertools.product("abcd"[:len(die)], repeat=many):
                    word = "".join(signs)
                    self.assertEqual(waiting(die, word), mean(die, [word], ""), (die, word))
        for word in ("abcdab", "dddddd", "ababab", "cddcdd", "aaaaad"):
            self.assertEqual(waiting([9, 2, 5, 4], word), mean([9, 2, 5, 4], [word], ""), word)

    def test_like_dice_tell_alike(self):
        for word in ("a", "ab", "aab", "bab", "ababab", "bbbbbb"):
            for many in (2, 3):
                with self.subTest(word=word, many=many):
                    self.assertEqual(waiting([3, 1], word), waiting([3 * many, many], word))

    def test_lowest_terms(self):
        for die in ([2, 2], [4, 2], [9, 3], [6, 8], [8, 4, 4], [9, 6, 3], [2, 4, 6, 8]):
            for word in ("a", "b", "ab", "aa", "bab", "aabaab", "bbbbbb"):
                with self.subTest(die=die, word=word):
                    top, bottom = waiting(die, word)
                    self.assertGreater(bottom, 0)
                    self.assertEqual(math.gcd(top, bottom), 1)

    def test_the_kind(self):
        told = waiting([3, 1], "aba")
        self.assertIs(type(told), tuple)
        self.assertEqual([type(number) for number in told], [int, int])


if __name__ == "__main__":
    unittest.main()
