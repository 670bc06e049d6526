"""The overlaps of a word with another one, or with itself: point 6."""

import itertools
import unittest

from wordrace.words import overlaps


def told_apart(one, other):
    """The overlaps by the document's words, sign by sign."""
    found = []
    for many in range(1, min(len(one), len(other)) + 1):
        if all(one[len(one) - many + k] == other[k] for k in range(many)):
            found.append(many)
    return found


class Overlaps(unittest.TestCase):
    def test_of_a_word_with_itself(self):
        for word, expected in (
            ("a", [1]), ("aa", [1, 2]), ("ab", [2]), ("aba", [1, 3]), ("abab", [2, 4]), ("aabaa", [1, 2, 5]),
            ("aaaaaa", [1, 2, 3, 4, 5, 6]), ("ababab", [2, 4, 6]), ("abaaba", [1, 3, 6]), ("aaaaab", [6]),
        ):
            with self.subTest(word=word):
                self.assertEqual(overlaps([1, 1], word, word), expected)

    def test_of_two_words_both_ways(self):
        for one, other, there, back in (
            ("aab", "aba", [2], [1]),
            ("ab", "ba", [1], [1]),
            ("aaab", "aaaa", [], [1, 2, 3]),
            ("abaab", "aabab", [3], [2]),
            ("bba", "abb", [1], [1, 2]),
            ("ababab", "bababa", [1, 3, 5], [1, 3, 5]),
        ):
            with self.subTest(one=one, other=other):
                self.assertEqual(overlaps([1, 1], one, other), there)
                self.assertEqual(overlaps([1, 1], other, one), back)

    def test_of_words_of_unlike_lengths(self):
        for one, other, there, back in (
            ("a", "aaaaaa", [1], [1]),
            ("bab", "ab", [2], [1]),
            ("ab", "abba", [2], [1]),
            ("ab", "bab", [1], [2]),
            ("bbaab", "aab", [3], [1]),
            ("abab", "ab", [2], [2]),
            ("b", "aabb", [], [1]),
        ):
            with self.subTest(one=one, other=other):
                self.assertEqual(overlaps([1, 1], one, other), there)
                self.assertEqual(overlaps([1, 1], other, one), back)

    def test_where_there_are_none(self):
        for one, other in (("a", "b"), ("ab", "aa"), ("aaaaab", "aaaaaa"), ("abc", "dab"), ("a", "ba"), ("abba", "bb")):
            with self.subTest(one=one, other=other):
                self.assertEqual(overlaps([1, 1, 1, 1], one, other), [])

    def test_all_pairs_of_short_words(self):
        for signs, most in (("ab", 5), ("abc", 3)):
            die = [1] * len(signs)
            texts = [
                "".join(word) for many in range(1, most + 1) for word in itertools.product(signs, repeat=many)
            ]
            for one, other in itertools.product(texts, repeat=2):
                self.assertEqual(overlaps(die, one, other), told_apart(one, other), (one, other))

    def test_the_weights_change_nothing(self):
        for die in ([1, 1], [9, 1], [1, 9], [2, 3, 4], [9, 8, 7, 6]):
            with self.subTest(die=die):
                self.assertEqual(overlaps(die, "aabaa", "aabab"), [1, 2])

    def test_the_kinds(self):
        told = overlaps([1, 1], "aba", "aba")
        self.assertIs(type(told), list)
        self.assertEqual([type(many) for many in told], [int, int])
        self.assertIs(type(overlaps([1, 1], "a", "b")), list)


if __name__ == "__main__":
    unittest.main()
