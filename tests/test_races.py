"""The shares of the words of a race, and the mean of the throws still to come: points 4, 5 and 10."""

import itertools
import math
import unittest
from fractions import Fraction

from wordrace.counts import ended_rows, open_rows
from wordrace.errors import Over
from wordrace.notes import shown
from wordrace.races import answer, mean, odds, shares, waiting
from wordrace.words import beginnings, ended, overlaps, state_of

CASES = (
    ([1, 1], ["a"]), ([9, 1], ["b"]), ([1, 1], ["ab"]), ([2, 3], ["bbb"]), ([3, 1], ["aabaab"]), ([1, 9], ["aaaaaa"]),
    ([1, 1], ["a", "b"]), ([3, 1], ["aab", "ba"]), ([1, 2], ["a", "bb"]), ([4, 6], ["abab", "baa"]),
    ([2, 7], ["aabbab", "bbaaba"]), ([1, 1], ["aaaaaa", "b"]), ([8, 2], ["b", "aaaa"]),
    ([1, 1], ["aaa", "bbb", "abab"]), ([1, 1, 1], ["a", "b", "c"]), ([1, 2, 3], ["abc", "bca", "cab"]),
    ([6, 4, 2], ["ccc", "ab", "bb", "cac"]), ([1, 1], ["aaaa", "bbbb", "abab", "baab"]),
    ([5, 3], ["aaaaaa", "abbbbb", "bababa", "bbaabb"]), ([1, 2, 3, 4], ["a", "b", "c", "d"]),
    ([9, 1, 1, 2], ["dcbadc", "ab", "cccc", "bdb"]), ([7, 5, 3, 2], ["abcdab", "bcdabc", "cdabcd", "dabcda"]),
    ([2, 2, 2, 2], ["aaaaaa", "aaaaab", "aaaaac", "aaaaad"]),
)


def races_of_two(signs, most):
    texts = ["".join(row) for many in range(1, most + 1) for row in itertools.product(signs, repeat=many)]
    return [[one, other] for one, other in itertools.permutations(texts, 2) if one not in other and other not in one]


def as_fractions(told):
    return [Fraction(top, bottom) for top, bottom in told]


def shares_behind(die, words, state):
    if state in words:
        return [Fraction(1 if word == state else 0) for word in words]
    return as_fractions(shares(die, words, state))


def mean_behind(die, words, state):
    if state in words:
        return Fraction(0)
    return Fraction(*mean(die, words, state))


class Sums(unittest.TestCase):
    """Point 10's own sums: what is told behind a state against what is told behind the next states."""

    def hold(self, die, words):
        for state in beginnings(die, words):
            if state in words:
                continue
            expected_shares = [Fraction(0) for word in words]
            expected_mean = Fraction(1)
            for sign, weight in zip("abcd", die):
                after = state_of(die, words, state + sign)
                part = Fraction(weight, sum(die))
                behind = shares_behind(die, words, after)
                expected_shares = [sofar + part * share for sofar, share in zip(expected_shares, behind)]
                expected_mean += part * mean_behind(die, words, after)
            self.assertEqual(as_fractions(shares(die, words, state)), expected_shares, (die, words, state))
            self.assertEqual(Fraction(*mean(die, words, state)), expected_mean, (die, words, state))
            self.assertEqual(sum(as_fractions(shares(die, words, state))), 1, (die, words, state))

    def test_of_one_to_four_words(self):
        for die, words in CASES:
            with self.subTest(die=die, words=words):
                self.hold(die, words)

    def test_of_all_races_of_two_short_words(self):
        for words in races_of_two("ab", 3):
            self.hold([3, 2], words)
        for words in races_of_two("abc", 2):
            self.hold([1, 4, 2], words)

    def test_of_one_word_of_up_to_five_signs(self):
        for many in range(1, 6):
            for signs in itertools.product("ab", repeat=many):
                self.hold([1, 3], ["".join(signs)])


class Shares(unittest.TestCase):
    def test_of_one_word(self):
        for die, words, row in (
            ([1, 1], ["a"], ""), ([1, 1], ["a"], "bbb"), ([9, 1], ["bbbbbb"], "abbbbb"), ([1, 2, 3, 4], ["abcdab"], ""),
            ([1, 2, 3, 4], ["abcdab"], "abcda"), ([1, 1], ["ab"], "b" * 60),
        ):
            with self.subTest(die=die, words=words, row=row):
                self.assertEqual(shares(die, words, row), [(1, 1)])

    def test_behind_no_throw(self):
        for die, words, expected in (
            ([1, 1], ["a", "b"], [(1, 2), (1, 2)]),
            ([3, 1], ["a", "b"], [(3, 4), (1, 4)]),
            ([1, 1], ["aab", "baa"], [(1, 4), (3, 4)]),
            ([1, 1], ["aaa", "baa"], [(1, 8), (7, 8)]),
            ([1, 1], ["aa", "ab"], [(1, 2), (1, 2)]),
            ([1, 1], ["aa", "ba"], [(1, 4), (3, 4)]),
            ([3, 1], ["aab", "ba"], [(9, 16), (7, 16)]),
            ([1, 2], ["a", "bb"], [(5, 9), (4, 9)]),
            ([1, 1, 1], ["abc", "bca", "cab"], [(1, 3), (1, 3), (1, 3)]),
            ([1, 2, 3, 4], ["a", "b", "c", "d"], [(1, 10), (1, 5), (3, 10), (2, 5)]),
            ([1, 1], ["aa", "ab", "ba", "bb"], [(1, 4), (1, 4), (1, 4), (1, 4)]),
            ([1, 2], ["aa", "ab", "ba", "bb"], [(1, 9), (2, 9), (2, 9), (4, 9)]),
        ):
            with self.subTest(die=die, words=words):
                self.assertEqual(shares(die, words, ""), expected)

    def test_behind_a_state_that_is_no_word(self):
        for die, words, row, expected in (
            ([1, 1], ["aa", "ba"], "a", [(1, 2), (1, 2)]),
            ([1, 1], ["aa", "ba"], "b", [(0, 1), (1, 1)]),
            ([1, 1], ["ba", "aa"], "b", [(1, 1), (0, 1)]),
            ([1, 2], ["a", "bb"], "b", [(1, 3), (2, 3)]),
            ([3, 1], ["aab", "ba"], "a", [(3, 4), (1, 4)]),
            ([3, 1], ["aab", "ba"], "aaaa", [(1, 1), (0, 1)]),
            ([3, 1], ["aab", "ba"], "abbb", [(0, 1), (1, 1)]),
            ([1, 1], ["aaa", "baa"], "aa", [(1, 2), (1, 2)]),
        ):
            with self.subTest(die=die, words=words, row=row):
                self.assertEqual(shares(die, words, row), expected)

    def test_they_stand_in_the_order_of_the_words(self):
        words = ["ccc", "ab", "bb", "cac"]
        told = dict(zip(words, shares([6, 4, 2], words, "c")))
        self.assertEqual(len(set(told.values())), 4)
        for order in itertools.permutations(words):
            with self.subTest(order=order):
                self.assertEqual(shares([6, 4, 2], list(order), "c"), [told[word] for word in order])

    def test_the_kinds(self):
        told = shares([3, 1], ["aab", "ba"], "")
        self.assertIs(type(told), list)
        for share in told:
            self.assertIs(type(share), tuple)
            self.assertEqual([type(number) for number in share], [int, int])

    def test_lowest_terms(self):
        for die, words in CASES:
            for state in beginnings(die, words):
                if state in words:
                    continue
                for top, bottom in shares(die, words, state) + [mean(die, words, state)]:
                    self.assertGreaterEqual(top, 0, (die, words, state))
                    self.assertGreater(bottom, 0, (die, words, state))
                    self.assertEqual(math.gcd(top, bottom), 1, (die, words, state))


class Means(unittest.TestCase):
    def test_behind_no_throw(self):
        for die, words, expected in (
            ([1, 1], ["a", "b"], (1, 1)), ([1, 1], ["aa", "ab", "ba", "bb"], (2, 1)), ([1, 1], ["aab", "baa"], (13, 2)),
            ([1, 1], ["aaa", "bbb"], (7, 1)), ([3, 1], ["aab", "ba"], (55, 12)), ([1, 2], ["a", "bb"], (5, 3)),
            ([1, 1], ["aaaaaa", "b"], (63, 32)), ([1, 2, 3, 4], ["a", "b", "c", "d"], (1, 1)),
        ):
            with self.subTest(die=die, words=words):
                self.assertEqual(mean(die, words, ""), expected)

    def test_behind_a_state_that_is_no_word(self):
        for die, words, row, expected in (
            ([1, 1], ["ab"], "a", (2, 1)), ([1, 1], ["aa"], "a", (4, 1)), ([1, 1], ["aaaaaa"], "aaaaa", (64, 1)),
            ([3, 1], ["ab"], "a", (4, 1)), ([3, 1], ["ab"], "b", (16, 3)), ([3, 1], ["aab", "ba"], "aa", (4, 1)),
            ([3, 1], ["aab", "ba"], "b", (4, 3)), ([1, 2], ["a", "bb"], "b", (1, 1)),
        ):
            with self.subTest(die=die, words=words, row=row):
                self.assertEqual(mean(die, words, row), expected)

    def test_of_one_word_behind_no_throw_it_is_what_waiting_tells(self):
        for die in ([1, 1], [3, 1], [2, 9]):
            for word in ("a", "b", "ab", "aa", "aba", "abab", "aabaa", "bbbbbb", "ababab", "aaaaab"):
                with self.subTest(die=die, word=word):
                    self.assertEqual(mean(die, [word], ""), waiting(die, word))

    def test_the_order_of_the_words_changes_nothing(self):
        for order in itertools.permutations(["ccc", "ab", "bb", "cac"]):
            with self.subTest(order=order):
                self.assertEqual(mean([6, 4, 2], list(order), "c"), mean([6, 4, 2], ["ccc", "ab", "bb", "cac"], "c"))

    def test_the_kind(self):
        told = mean([3, 1], ["aab", "ba"], "")
        self.assertIs(type(told), tuple)
        self.assertEqual([type(number) for number in told], [int, int])


class LongRows(unittest.TestCase):
    """What is told hangs on the row's state alone."""

    def test_behind_rows_much_longer_than_every_word(self):
        for die, words, row, state in (
            ([1, 1], ["abaabb"], "ab" * 30, "ab"), ([3, 1], ["abaabb"], "ba" * 30, "aba"),
            ([3, 1], ["aab", "ba"], "b" * 60, "b"), ([3, 1], ["aab", "ba"], "a" * 60, "aa"),
            ([1, 2], ["bbbb", "aaa"], "ab" * 29 + "bb", "bbb"), ([1, 2, 3], ["abc", "bca", "cab"], "acb" * 20, "b"),
            ([9, 1, 1, 2], ["dcbadc", "ab", "cccc", "bdb"], "a" * 55 + "dcbad", "dcbad"),
            ([9, 1, 1, 2], ["dcbadc", "ab", "cccc", "bdb"], "cba" * 19 + "ccc", "ccc"),
        ):
            with self.subTest(die=die, words=words, row=row):
                self.assertEqual(shares(die, words, row), shares(die, words, state))
                self.assertEqual(mean(die, words, row), mean(die, words, state))

    def test_behind_all_short_open_rows(self):
        for words in (["aab"], ["ab", "bba"], ["aba", "bb", "aaaa"], ["bbb", "abba", "aaa"]):
            begun = {word[:many] for word in words for many in range(len(word) + 1)}
            for many in range(7):
                for signs in itertools.product("ab", repeat=many):
                    row = "".join(signs)
                    if any(word in row for word in words):
                        continue
                    state = next(row[start:] for start in range(len(row) + 1) if row[start:] in begun)
                    self.assertEqual(shares([2, 3], words, row), shares([2, 3], words, state), (words, row))
                    self.assertEqual(mean([2, 3], words, row), mean([2, 3], words, state), (words, row))


class RowsThatAreOver(unittest.TestCase):
    OVER = (
        (["a"], "a"), (["ab"], "ab"), (["ab"], "abb"), (["ab"], "abbbbb"), (["ab"], "bbab"), (["ab"], "baba"),
        (["aab", "ba"], "aab"), (["aab", "ba"], "ba"), (["aab", "ba"], "babb"), (["ba", "aab"], "aaabb"),
        (["abbaba"], "abbabab"), (["aaaaab", "bb"], "a" * 59 + "b"), (["ab"], "ab" + "b" * 58),
        (["aba", "bab", "aaa", "bbb"], "aabbabb"),
    )

    def test_they_are_refused_by_shares_and_mean(self):
        for words, row in self.OVER:
            with self.subTest(words=words, row=row):
                with self.assertRaises(Over):
                    shares([3, 1], words, row)
                with self.assertRaises(Over):
                    mean([3, 1], words, row)

    def test_short_rows_are_refused_just_where_they_hold_a_word(self):
        for words in (["aab", "ba"], ["bb"], ["aba", "bab"]):
            for many in range(7):
                for signs in itertools.product("ab", repeat=many):
                    row = "".join(signs)
                    for asked in (shares, mean):
                        if any(word in row for word in words):
                            with self.assertRaises(Over):
                                asked([1, 1], words, row)
                        else:
                            asked([1, 1], words, row)

    def test_they_are_refused_by_no_other_function(self):
        for words, row in self.OVER:
            with self.subTest(words=words, row=row):
                self.assertIn(state_of([3, 1], words, row), beginnings([3, 1], words))
                self.assertIsNotNone(ended([3, 1], words, row))
                # These are handed no row, so none of them may ask for an open one.
                overlaps([3, 1], words[0], words[-1])
                waiting([3, 1], words[0])
                answer([3, 1], words[0][:5])
                odds([3, 1], words[0], ("b" if words[0][0] == "a" else "a") + words[0][1:])
                open_rows([3, 1], words, len(row))
                ended_rows([3, 1], words, len(row))
                shown([3, 1], words)


if __name__ == "__main__":
    unittest.main()
