"""The odds of two words as long as one another, and the answer to a word: points 11 and 12."""

import itertools
import math
import unittest
from fractions import Fraction

from wordrace.errors import NoRace, TooMany
from wordrace.races import answer, odds, shares


def words_of(signs, many):
    return ["".join(word) for word in itertools.product(signs, repeat=many)]


class Odds(unittest.TestCase):
    def test_of_two_words(self):
        for die, one, other, expected in (
            ([1, 1], "a", "b", (1, 2)), ([3, 1], "a", "b", (3, 4)), ([3, 1], "b", "a", (1, 4)),
            ([1, 1], "aa", "ba", (1, 4)), ([1, 1], "ba", "aa", (3, 4)), ([1, 1], "aaa", "baa", (1, 8)),
            ([1, 1], "baa", "aab", (3, 4)), ([1, 1], "bab", "bba", (1, 3)), ([1, 1], "abab", "babb", (9, 14)),
            ([1, 2, 3, 4], "c", "d", (3, 7)), ([9, 1], "bb", "ab", (1, 100)), ([3, 1], "aab", "baa", (9, 16)),
        ):
            with self.subTest(die=die, one=one, other=other):
                self.assertEqual(odds(die, one, other), expected)

    def test_is_the_share_of_the_race_of_the_two_behind_no_throw(self):
        for die, most in (
            ([1, 1], 4), ([3, 1], 4), ([2, 9], 3), ([1, 2, 3], 2), ([6, 3, 9], 2), ([5, 1, 2, 7], 2),
        ):
            for many in range(1, most + 1):
                for one, other in itertools.permutations(words_of("abcd"[:len(die)], many), 2):
                    expected = shares(die, [one, other], "")[0]
                    self.assertEqual(odds(die, one, other), expected, (die, one, other))

    def test_is_the_share_for_words_of_six_signs(self):
        for one, other in itertools.permutations(("aaaaaa", "ababab", "bababa", "baaaaa", "aabaab", "bbabba"), 2):
            for die in ([1, 1], [4, 3], [9, 1, 5]):
                with self.subTest(die=die, one=one, other=other):
                    self.assertEqual(odds(die, one, other), shares(die, [one, other], "")[0])

    def test_both_ways_round_they_come_to_one_in_lowest_terms(self):
        for die in ([1, 1], [2, 6], [9, 4]):
            for many in (1, 2, 3, 4):
                for one, other in itertools.combinations(words_of("ab", many), 2):
                    there, back = odds(die, one, other), odds(die, other, one)
                    self.assertEqual(Fraction(*there) + Fraction(*back), 1, (die, one, other))
                    for top, bottom in (there, back):
                        self.assertEqual(math.gcd(top, bottom), 1, (die, one, other))
                        self.assertGreater(bottom, 0, (die, one, other))

    def test_words_of_unlike_lengths_are_no_race(self):
        for one, other in (
            ("a", "bb"), ("bb", "a"), ("aab", "ba"), ("ba", "aab"), ("a", "aa"), ("aba", "b"), ("aaaaaa", "bbbbb"),
        ):
            with self.subTest(one=one, other=other), self.assertRaises(NoRace):
                odds([3, 1], one, other)

    def test_one_word_twice_is_no_race(self):
        for word in ("a", "b", "ab", "aba", "aaaaaa", "abbaba"):
            with self.subTest(word=word), self.assertRaises(NoRace):
                odds([3, 1], word, word)

    def test_the_kind(self):
        told = odds([3, 1], "ab", "ba")
        self.assertIs(type(told), tuple)
        self.assertEqual([type(number) for number in told], [int, int])


class Answers(unittest.TestCase):
    def test_of_even_coins(self):
        for word, expected in (
            ("a", "b"), ("b", "a"), ("aa", "ba"), ("bb", "ab"), ("aaa", "baa"), ("aab", "baa"), ("aba", "aab"),
            ("abb", "aab"), ("baa", "bba"), ("bab", "bba"), ("bba", "abb"), ("bbb", "abb"),
        ):
            with self.subTest(word=word):
                self.assertEqual(answer([1, 1], word), expected)

    def test_of_several_the_first_by_the_alphabet(self):
        for die, word, several in (
            ([1, 1], "ab", ("aa", "ba")), ([1, 1], "ba", ("ab", "bb")), ([1, 1, 1], "a", ("b", "c")),
            ([1, 1, 1, 1], "d", ("a", "b", "c")), ([1, 3, 3, 1], "d", ("b", "c")), ([2, 1, 2], "b", ("a", "c")),
        ):
            with self.subTest(die=die, word=word):
                self.assertEqual(len({odds(die, rival, word) for rival in several}), 1)
                self.assertEqual(answer(die, word), several[0])

    def test_of_unlike_weights(self):
        for die, word, expected in (
            ([1, 2, 3, 4], "a", "d"), ([1, 2, 3, 4], "d", "c"), ([4, 3, 2, 1], "a", "b"), ([9, 1], "bb", "ab"),
            ([1, 9], "ab", "ba"), ([3, 1], "aaa", "baa"),
        ):
            with self.subTest(die=die, word=word):
                self.assertEqual(answer(die, word), expected)

    def test_against_the_odds_over_all_other_words_of_as_many_signs(self):
        for die, most in (
            ([1, 1], 5), ([3, 1], 4), ([2, 9], 5), ([1, 1, 1], 3), ([5, 2, 4], 2), ([1, 1, 1, 1], 2), ([4, 1, 8, 3], 2),
        ):
            for many in range(1, most + 1):
                texts = words_of("abcd"[:len(die)], many)
                for word in texts[::1 if many < 5 else 5]:
                    told = {rival: Fraction(*odds(die, rival, word)) for rival in texts if rival != word}
                    greatest = max(told.values())
                    expected = min(rival for rival in told if told[rival] == greatest)
                    self.assertEqual(answer(die, word), expected, (die, word))

    def test_up_to_thirty_two_words_are_told(self):
        for die, word in (
            ([1, 1], "aaaaa"), ([1, 9], "babab"), ([1, 1, 1], "ccc"), ([3, 2, 1], "abc"), ([1, 1, 1, 1], "dd"),
            ([9, 1, 2, 3], "ad"),
        ):
            with self.subTest(die=die, word=word):
                told = answer(die, word)
                self.assertEqual(len(told), len(word))
                self.assertNotEqual(told, word)

    def test_of_more_than_thirty_two_words_none_is_told(self):
        for die, words in (
            ([1, 1], ("aaaaaa", "bababa")),
            ([1, 2, 3], ("aaaa", "abca", "ababa", "cccccc")),
            ([1, 2, 3, 4], ("aaa", "bab", "abcd", "aaaaa", "dddddd")),
        ):
            for word in words:
                with self.subTest(die=die, word=word), self.assertRaises(TooMany):
                    answer(die, word)

    def test_the_kind(self):
        self.assertIs(type(answer([1, 1], "ab")), str)


if __name__ == "__main__":
    unittest.main()
