"""The beginnings of a race and their order, and the state of a row: points 7 and 8."""

import itertools
import unittest

from wordrace.words import beginnings, state_of

RACES = (
    ["a"], ["b"], ["ab"], ["aab"], ["abab"], ["aabaab"], ["ababb"],
    ["a", "bb"], ["ab", "ba"], ["aab", "aba"], ["bab", "aabb"], ["abbab", "bbb"],
    ["aab", "bba", "bbb"], ["aaaa", "bbbb", "abab", "baab"],
)


def rows(signs, most):
    return ["".join(row) for many in range(most + 1) for row in itertools.product(signs, repeat=many)]


def begun(words):
    """The beginnings by the document's words, in no order."""
    return {word[:many] for word in words for many in range(len(word) + 1)}


def longest(words, text):
    """The longest of the beginnings at the text's end: its longest tail that is one."""
    for start in range(len(text) + 1):
        if text[start:] in begun(words):
            return text[start:]
    return None


class Beginnings(unittest.TestCase):
    def test_of_one_word(self):
        for words, expected in (
            (["a"], ["", "a"]),
            (["ba"], ["", "b", "ba"]),
            (["aaa"], ["", "a", "aa", "aaa"]),
            (["dcbadc"], ["", "d", "dc", "dcb", "dcba", "dcbad", "dcbadc"]),
        ):
            with self.subTest(words=words):
                self.assertEqual(beginnings([1, 1, 1, 1], words), expected)

    def test_the_shorter_stand_ahead_and_as_long_ones_by_the_alphabet(self):
        for words, expected in (
            (["ba", "ab"], ["", "a", "b", "ab", "ba"]),
            (["d", "c", "b", "a"], ["", "a", "b", "c", "d"]),
            (["bab", "aabb"], ["", "a", "b", "aa", "ba", "aab", "bab", "aabb"]),
            (["aaaa", "b"], ["", "a", "b", "aa", "aaa", "aaaa"]),
            (["cb", "ca", "bd", "bc"], ["", "b", "c", "bc", "bd", "ca", "cb"]),
            (["b", "aaa"], ["", "a", "b", "aa", "aaa"]),
        ):
            with self.subTest(words=words):
                self.assertEqual(beginnings([1, 1, 1, 1], words), expected)

    def test_each_stands_once(self):
        for words, expected in (
            (["aab", "aaa"], ["", "a", "aa", "aaa", "aab"]),
            (["abcdab", "abcdac"], ["", "a", "ab", "abc", "abcd", "abcda", "abcdab", "abcdac"]),
            (["aba", "abb", "aab", "aaa"], ["", "a", "aa", "ab", "aaa", "aab", "aba", "abb"]),
        ):
            with self.subTest(words=words):
                self.assertEqual(beginnings([1, 1, 1, 1], words), expected)

    def test_the_empty_text_and_the_words_are_among_them(self):
        for words in RACES:
            with self.subTest(words=words):
                told = beginnings([1, 1], words)
                self.assertEqual(told[0], "")
                for word in words:
                    self.assertEqual(told.count(word), 1)

    def test_all_races_of_two_short_words(self):
        texts = rows("ab", 4)[1:]
        for one, other in itertools.product(texts, repeat=2):
            if one in other or other in one:
                continue
            expected = sorted(begun([one, other]), key=lambda text: (len(text), text))
            self.assertEqual(beginnings([1, 1], [one, other]), expected, (one, other))

    def test_the_order_of_the_words_and_the_weights_change_nothing(self):
        expected = beginnings([1, 1], ["aab", "bba", "bbb"])
        for words in itertools.permutations(["aab", "bba", "bbb"]):
            for die in ([1, 1], [9, 1], [1, 2, 3], [4, 3, 2, 1]):
                with self.subTest(words=words, die=die):
                    self.assertEqual(beginnings(die, list(words)), expected)

    def test_the_kinds(self):
        told = beginnings([1, 1], ["ab"])
        self.assertIs(type(told), list)
        self.assertEqual([type(text) for text in told], [str, str, str])


class States(unittest.TestCase):
    def test_of_the_empty_row(self):
        for words in RACES:
            with self.subTest(words=words):
                self.assertEqual(state_of([1, 1], words, ""), "")

    def test_of_a_row_that_ends_with_a_whole_word(self):
        for words, row, expected in (
            (["ab"], "ab", "ab"), (["ab"], "bbab", "ab"), (["aba"], "ababa", "aba"),
            (["aab", "bb"], "aabb", "bb"), (["aab", "bb"], "bbaab", "aab"), (["a"], "aaaa", "a"),
        ):
            with self.subTest(words=words, row=row):
                self.assertEqual(state_of([1, 1], words, row), expected)

    def test_of_a_row_that_ends_with_none_but_the_empty_beginning(self):
        for words, row in (
            (["a"], "b"), (["ab"], "abb"), (["aab", "aba"], "bbbb"), (["cab"], "abab"), (["abc"], "abcd"),
        ):
            with self.subTest(words=words, row=row):
                self.assertEqual(state_of([1, 1, 1, 1], words, row), "")

    def test_the_longest_of_several_is_told(self):
        for words, row, expected in (
            (["aaab"], "aaa", "aaa"), (["aaab"], "aaaaa", "aaa"), (["abab"], "bbaba", "aba"),
            (["abc", "bca"], "ab", "ab"), (["bca", "abd"], "ab", "ab"), (["bab", "abb"], "ba", "ba"),
        ):
            with self.subTest(words=words, row=row):
                self.assertEqual(state_of([1, 1, 1, 1], words, row), expected)

    def test_of_rows_longer_than_every_word(self):
        for words, row, expected in (
            (["abaabb"], "ab" * 30, "ab"), (["abaabb"], "ba" * 30, "aba"), (["aaaaaa"], "a" * 60, "aaaaaa"),
            (["aaaaab", "bb"], "a" * 59 + "b", "aaaaab"), (["abbbbb", "aa"], "b" * 60, ""),
        ):
            with self.subTest(words=words, row=row):
                self.assertEqual(state_of([1, 1], words, row), expected)

    def test_the_state_gets_shorter_with_a_throw(self):
        for words, row, ahead, behind in (
            (["aabb"], "aaba", "aab", "a"), (["abab"], "abaa", "aba", "a"), (["ababb"], "ababa", "abab", "aba"),
            (["aaaaaa"], "aaaaab", "aaaaa", ""), (["aab", "aba"], "abb", "ab", ""), (["ab"], "abb", "ab", ""),
        ):
            with self.subTest(words=words, row=row):
                self.assertEqual(state_of([1, 1], words, row[:-1]), ahead)
                self.assertEqual(state_of([1, 1], words, row), behind)

    def test_a_word_passed_by_changes_nothing(self):
        self.assertEqual(state_of([1, 1], ["ab", "bb"], "abba"), "a")
        self.assertEqual(state_of([1, 1], ["aa", "bab"], "aaba"), "ba")

    def test_all_short_rows(self):
        for words in RACES:
            for row in rows("ab", 8):
                self.assertEqual(state_of([1, 1], words, row), longest(words, row), (words, row))

    def test_the_next_state_hangs_on_the_state_and_the_sign_alone(self):
        for words in RACES:
            for row in rows("ab", 6):
                state = state_of([1, 1], words, row)
                for sign in "ab":
                    told = state_of([1, 1], words, row + sign)
                    self.assertEqual(told, longest(words, state + sign), (words, row, sign))
                    self.assertEqual(told, state_of([1, 1], words, state + sign), (words, row, sign))

    def test_the_next_state_sign_by_sign_up_to_sixty_throws(self):
        row = ("aababbabaaabbbabcacbaabaacbb" * 3)[:60]
        for words in RACES + (["abcacb"], ["abac", "cbaa"], ["caba", "aacb", "bbb", "bca"]):
            state = ""
            for many, sign in enumerate(row, start=1):
                state = longest(words, state + sign)
                self.assertEqual(state_of([3, 2, 1], words, row[:many]), state, (words, many))

    def test_the_order_of_the_words_and_the_weights_change_nothing(self):
        for words in itertools.permutations(["aab", "bba", "bbb"]):
            for die in ([1, 1], [9, 1], [1, 2, 3], [4, 3, 2, 1]):
                with self.subTest(words=words, die=die):
                    self.assertEqual(state_of(die, list(words), "abaa"), "aa")
                    self.assertEqual(state_of(die, list(words), "aabb"), "bb")

    def test_the_kind(self):
        self.assertIs(type(state_of([1, 1], ["ab"], "")), str)
        self.assertIs(type(state_of([1, 1], ["ab"], "aa")), str)


if __name__ == "__main__":
    unittest.main()
