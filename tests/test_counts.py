"""How many rows are open, and how many each word ends: point 13."""

import itertools
import unittest

from wordrace.counts import ended_rows, open_rows
from wordrace.errors import NoRow

FAR = 10 ** 5000

CASES = (
    ([1, 1], ["a"], 8), ([1, 1], ["ab"], 8), ([1, 1], ["bab"], 9), ([1, 1], ["aaaaaa"], 9), ([3, 1], ["aabaab"], 9),
    ([1, 1], ["a", "b"], 6), ([3, 1], ["aab", "ba"], 8), ([1, 9], ["ba", "aab"], 8), ([1, 1], ["abab", "bb"], 9),
    ([1, 1], ["aaaa", "bbbb", "abab", "baab"], 9), ([1, 1, 1], ["abc", "cab"], 6), ([5, 2, 1], ["ccc", "ab", "bb"], 6),
    ([1, 1, 1, 1], ["ad"], 5), ([1, 2, 3, 4], ["a", "b", "c", "d"], 4), ([1, 2, 3, 4], ["dcb", "ab", "cc", "bdb"], 5),
)


def gone_through(signs, words, many):
    """All rows of so many throws gone through: the open ones, and those that each word ends just then."""
    still_open = 0
    by_word = [0] * len(words)
    for throws in itertools.product(signs, repeat=many):
        row = "".join(throws)
        if not any(word in row for word in words):
            still_open += 1
        elif not any(word in row[:-1] for word in words):
            for place, word in enumerate(words):
                by_word[place] += row.endswith(word)
    return still_open, by_word


class Counts(unittest.TestCase):
    def test_against_all_rows_gone_through(self):
        for die, words, most in CASES:
            for many in range(most + 1):
                still_open, by_word = gone_through("abcd"[:len(die)], words, many)
                with self.subTest(die=die, words=words, many=many):
                    self.assertEqual(open_rows(die, words, many), still_open)
                    self.assertEqual(ended_rows(die, words, many), by_word)

    def test_of_no_throw(self):
        for die, words, most in CASES:
            with self.subTest(die=die, words=words):
                self.assertEqual(open_rows(die, words, 0), 1)
                self.assertEqual(ended_rows(die, words, 0), [0] * len(words))

    def test_of_one_throw(self):
        self.assertEqual(open_rows([1, 1, 1, 1], ["b", "d", "aa"], 1), 2)
        self.assertEqual(ended_rows([1, 1, 1, 1], ["b", "d", "aa"], 1), [1, 1, 0])

    def test_of_sixty_throws(self):
        for die, words, still_open, by_word in (
            # Without aa the rows grow as Fibonacci's numbers do.
            ([1, 1], ["aa"], 4052739537881, [956722026041]),
            ([1, 1], ["ab"], 61, [59]),
            ([1, 1], ["a"], 1, [1]),
            ([1, 1, 1, 1], ["a"], 3 ** 60, [3 ** 59]),
            ([1, 1, 1], ["a", "c"], 1, [1, 1]),
            ([1, 1], ["a", "b"], 0, [0, 0]),
            ([1, 1], ["aa", "bb"], 2, [1, 1]),
            ([1, 1], ["ab", "bb"], 2, [2, 0]),
        ):
            with self.subTest(die=die, words=words):
                self.assertEqual(open_rows(die, words, 60), still_open)
                self.assertEqual(ended_rows(die, words, 60), by_word)

    def test_open_rows_with_a_sign_behind_are_the_open_and_the_ended_of_one_throw_more(self):
        for die, words, most in CASES:
            for many in range(60):
                with self.subTest(die=die, words=words, many=many):
                    longer = open_rows(die, words, many + 1) + sum(ended_rows(die, words, many + 1))
                    self.assertEqual(len(die) * open_rows(die, words, many), longer)

    def test_the_weights_turn_nothing(self):
        for many in (0, 1, 2, 5, 17, 60):
            for dice, words in (
                (([1, 1], [9, 1], [1, 9], [4, 6]), ["aab", "ba"]),
                (([1, 1, 1], [9, 5, 1], [2, 2, 7]), ["abc", "ca", "bbb"]),
                (([1, 1, 1, 1], [9, 8, 7, 6], [1, 9, 1, 9]), ["dd", "abcd", "bda", "cc"]),
            ):
                with self.subTest(many=many, words=words):
                    self.assertEqual(len({open_rows(die, words, many) for die in dice}), 1)
                    self.assertEqual(len({tuple(ended_rows(die, words, many)) for die in dice}), 1)

    def test_a_sign_that_no_word_has_counts_too(self):
        self.assertEqual([open_rows([1] * many, ["ab"], 2) for many in (2, 3, 4)], [3, 8, 15])
        self.assertEqual([ended_rows([1] * many, ["ab"], 3) for many in (2, 3, 4)], [[2], [3], [4]])

    def test_they_stand_in_the_order_of_the_words(self):
        words = ["aab", "ba", "bbbb"]
        told = dict(zip(words, ended_rows([1, 1], words, 5)))
        self.assertEqual(told, dict(zip(words, gone_through("ab", words, 5)[1])))
        for order in itertools.permutations(words):
            with self.subTest(order=order):
                self.assertEqual(ended_rows([1, 1], list(order), 5), [told[word] for word in order])

    def test_numbers_not_from_nought_to_sixty_are_refused(self):
        for which, many in enumerate((-1, -2, -60, 61, 62, 99, 1000, FAR, -FAR)):
            for asked in (open_rows, ended_rows):
                with self.subTest(which=which, asked=asked.__name__), self.assertRaises(NoRow):
                    asked([3, 1], ["aab", "ba"], many)

    def test_every_number_from_nought_to_sixty_is_taken(self):
        for many in range(61):
            with self.subTest(many=many):
                self.assertEqual(open_rows([1, 1], ["ab"], many), many + 1)
                self.assertEqual(ended_rows([1, 1], ["ab"], many), [max(many - 1, 0)])

    def test_the_kinds(self):
        self.assertIs(type(open_rows([3, 1], ["ab"], 4)), int)
        self.assertIs(type(open_rows([3, 1], ["a", "b"], 4)), int)
        told = ended_rows([3, 1], ["ab", "bb"], 4)
        self.assertIs(type(told), list)
        self.assertEqual([type(number) for number in told], [int, int])


if __name__ == "__main__":
    unittest.main()
