"""Where a word ends a row: point 4."""

import itertools
import unittest

from wordrace.words import ended

RACES = (
    ["a"], ["ab"], ["aab", "bb"], ["bb", "aab"], ["aba", "bab"], ["bbb", "abba", "aaa"],
    ["aaaa", "bbbb", "abab", "baab"],
)


def first_end(words, row):
    """The least end of all places at which a word stands, found word by word."""
    ends = []
    for place, word in enumerate(words):
        start = row.find(word)
        if start >= 0:
            ends.append((start + len(word), place))
    return min(ends) if ends else None


class Ended(unittest.TestCase):
    def test_a_word_at_the_very_beginning(self):
        for words, row, expected in (
            (["a"], "a", (1, 0)), (["a"], "abbb", (1, 0)), (["ab"], "abaa", (2, 0)), (["abbaba"], "abbabab", (6, 0)),
        ):
            with self.subTest(words=words, row=row):
                self.assertEqual(ended([1, 1], words, row), expected)

    def test_a_word_at_the_very_end(self):
        for words, row, expected in (
            (["a"], "bbba", (4, 0)), (["ab"], "bbaab", (5, 0)), (["ab"], "b" * 58 + "ab", (60, 0)),
            (["aaaaab"], "a" * 59 + "b", (60, 0)), (["bb", "aba"], "aaaba", (5, 1)),
        ):
            with self.subTest(words=words, row=row):
                self.assertEqual(ended([1, 1], words, row), expected)

    def test_a_word_in_the_middle(self):
        self.assertEqual(ended([1, 1], ["aab"], "babaabbb"), (6, 0))
        self.assertEqual(ended([1, 1], ["aab"], "aaaab"), (5, 0))

    def test_the_least_of_several_ends_of_one_word(self):
        self.assertEqual(ended([1, 1], ["ab"], "bababab"), (3, 0))
        self.assertEqual(ended([1, 1], ["aa"], "a" * 60), (2, 0))

    def test_a_row_that_holds_several_words(self):
        for words, row, expected in (
            (["bb", "aa"], "aabb", (2, 1)), (["aa", "bb"], "aabb", (2, 0)),
            (["bba", "aab"], "aabba", (3, 1)), (["aab", "bba"], "aabba", (3, 0)),
            (["aba", "bab"], "abab", (3, 0)), (["bab", "aba"], "abab", (3, 1)),
            (["abbb", "bba"], "bbabbb", (3, 1)), (["bbb", "abba", "aaa"], "babbaaabbb", (5, 1)),
        ):
            with self.subTest(words=words, row=row):
                self.assertEqual(ended([1, 1], words, row), expected)

    def test_each_place_of_the_list(self):
        words = ["aa", "bb", "cc", "dd"]
        for order in itertools.permutations(words):
            for place, word in enumerate(order):
                with self.subTest(order=order, word=word):
                    self.assertEqual(ended([1, 1, 1, 1], list(order), "abcd" + "abc" + word)[1], place)

    def test_the_overlap_of_two_words(self):
        self.assertEqual(ended([1, 1, 1], ["bca", "abb"], "abca"), (4, 0))
        self.assertEqual(ended([1, 1, 1], ["cab", "abc"], "abcab"), (3, 1))

    def test_none_where_no_word_ends_the_row(self):
        for words, row in (
            (["a"], ""), (["a"], "b"), (["a"], "b" * 60), (["ab"], "a"), (["ab"], "bbbaaa"),
            (["aba", "bab"], "aabbaabb"), (["abbaba"], "abbab"),
        ):
            with self.subTest(words=words, row=row):
                self.assertIsNone(ended([1, 1], words, row))

    def test_all_short_rows(self):
        for words in RACES:
            for many in range(9):
                for signs in itertools.product("ab", repeat=many):
                    row = "".join(signs)
                    self.assertEqual(ended([1, 1], words, row), first_end(words, row), (words, row))

    def test_the_weights_change_nothing(self):
        for die in ([1, 1], [9, 1], [1, 9], [2, 3, 4], [9, 8, 7, 6]):
            with self.subTest(die=die):
                self.assertEqual(ended(die, ["bb", "aab"], "abaabb"), (5, 1))

    def test_the_kinds(self):
        told = ended([1, 1], ["b", "a"], "a")
        self.assertIs(type(told), tuple)
        self.assertEqual([type(number) for number in told], [int, int])


if __name__ == "__main__":
    unittest.main()
