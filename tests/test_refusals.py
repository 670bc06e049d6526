"""What a die, a word, a race and a row are: points 2, 3 and 4, and the order of the refusals of each function."""

import itertools
import unittest

from wordrace.counts import ended_rows, open_rows
from wordrace.errors import NoDie, NoRace, NoRow, NoWord, Over, TooMany
from wordrace.notes import shown
from wordrace.races import answer, mean, odds, shares, waiting
from wordrace.words import beginnings, ended, overlaps, state_of

FAR = 10 ** 5000

BAD_DICE = (
    [], [1], [9], [1, 1, 1, 1, 1], [1] * 9,
    [0, 1], [1, 0], [1, 1, 0], [1, 1, 1, 0],
    [10, 1], [1, 10], [1, 1, 10], [1, 1, 1, 10],
    [-1, 1], [1, -1], [3, 3, -9], [1, 2, 3, -4],
    [FAR, 1], [1, FAR], [-FAR, 1], [1, 1, 1, -FAR],
)
BAD_WORDS = (
    ([1, 1], ("c", "d", "abc", "cab", "acb", "aaaaac")),
    ([1, 1, 1], ("d", "abd", "dab", "adb", "e")),
    ([1, 1, 1, 1], ("e", "abe", "eab", "aeb", "z")),
    ([1, 2, 3, 4], (
        "", "aaaaaaa", "abcdabc", "a" * 99, "A", "aB", "D", " ", " a", "a ", "a b", "      ",
        "~", "`", "@", "1", "a1", "-a", "a,b", "a:", "{", "!", "'", '"', "\\", "/", "_",
    )),
)
BAD_RACES = (
    [],
    ["aa", "ab", "ba", "bb", "cc"],
    ["aa", "ab", "ac", "ad", "ba", "bb", "bc", "bd", "ca"],
    ["a"] * 9,
    ["a", "a"], ["abcdab", "abcdab"],
    ["ab", "cd", "ab"], ["cd", "ab", "ab"], ["ab", "ab", "cd"], ["ab", "cc", "dd", "ab"],
    ["ab", "abc"], ["abc", "ab"], ["a", "aaaaaa"], ["abcdab", "abcda"],
    ["bc", "abcd"], ["abcd", "bc"], ["c", "abcda"], ["abbaab", "ba"],
    ["bc", "abc"], ["abc", "bc"], ["d", "aaaaad"], ["abcdab", "b"],
    ["cc", "dd", "ab", "cabc"], ["cabc", "cc", "dd", "ab"], ["cc", "ab", "cabd", "dd"],
)
GOOD_RACES = (
    ["a"], ["abcdab"], ["aaaaaa"],
    ["a", "b"], ["a", "b", "c"], ["a", "b", "c", "d"], ["d", "c", "b", "a"],
    ["ab", "ba"], ["abc", "bca", "cab"], ["aa", "ab", "ba", "bb"],
    ["abcdab", "bcdabc", "cdabcd", "dabcda"],
    # They overlap, or share a beginning or an end, or hold the other one's signs apart: none stands within.
    ["ab", "bc"], ["aab", "aac"], ["baa", "caa"], ["ac", "abc"], ["aa", "aba"], ["d", "abcabc"],
)
BAD_ROWS = (
    ([1, 1], ("c", "abc", "cab", "acb", "a" * 59 + "c", "c" + "b" * 59)),
    ([1, 1, 1], ("d", "abcd", "dabc", "abdc")),
    ([1, 1, 1, 1], (
        "a" * 61, "ab" * 31, "a" * 99, "e", "abcde", "A", "abC", " ", " a", "a ", "a b", "~", "`", "1", "a" * 59 + "E",
        "a" * 60 + "e",
    )),
)


# Each function, handed a die and what it takes of words, a row and a number of throws.
ONE_WORD_FUNCTIONS = (("waiting", waiting), ("answer", answer))
TWO_WORDS_FUNCTIONS = (("overlaps", overlaps), ("odds", odds))
RACE_FUNCTIONS = (
    ("beginnings", lambda die, words, row: beginnings(die, words)),
    ("state_of", state_of),
    ("ended", ended),
    ("shares", shares),
    ("mean", mean),
    ("open_rows", lambda die, words, row: open_rows(die, words, len(row))),
    ("ended_rows", lambda die, words, row: ended_rows(die, words, len(row))),
    ("shown", lambda die, words, row: shown(die, words)),
)
ROW_FUNCTIONS = (("state_of", state_of), ("ended", ended), ("shares", shares), ("mean", mean))
COUNT_FUNCTIONS = (("open_rows", open_rows), ("ended_rows", ended_rows))


class Dice(unittest.TestCase):
    def test_every_die_with_the_least_and_the_greatest_weights_is_taken(self):
        for many in (2, 3, 4):
            for weights in itertools.product((1, 2, 8, 9), repeat=many):
                die = list(weights)
                last = "abcd"[many - 1]
                with self.subTest(die=die):
                    self.assertEqual(overlaps(die, last, last), [1])
                    self.assertEqual(beginnings(die, [last]), ["", last])
                    self.assertEqual(state_of(die, [last], last), last)
                    self.assertEqual(ended(die, [last], last), (1, 0))
                    self.assertEqual(shares(die, [last], ""), [(1, 1)])
                    self.assertEqual(mean(die, [last], ""), waiting(die, last))
                    self.assertGreater(odds(die, last, "a")[0], 0)
                    self.assertNotEqual(answer(die, last), last)
                    self.assertEqual(open_rows(die, [last], 1), many - 1)
                    self.assertEqual(ended_rows(die, [last], 1), [1])
                    self.assertTrue(shown(die, [last]).endswith(": " + last))

    def test_every_weight_from_one_to_nine_is_taken(self):
        for weight in range(1, 10):
            with self.subTest(weight=weight):
                self.assertEqual(beginnings([weight, 10 - weight], ["ab"]), ["", "a", "ab"])

    def test_no_die_is_refused_by_each_function(self):
        for which, die in enumerate(BAD_DICE):
            with self.subTest(which=which):
                for name, asked in ONE_WORD_FUNCTIONS:
                    with self.subTest(name=name), self.assertRaises(NoDie):
                        asked(die, "a")
                for name, asked in TWO_WORDS_FUNCTIONS:
                    with self.subTest(name=name), self.assertRaises(NoDie):
                        asked(die, "a", "b")
                for name, asked in RACE_FUNCTIONS:
                    with self.subTest(name=name), self.assertRaises(NoDie):
                        asked(die, ["a"], "a")


class Words(unittest.TestCase):
    def test_words_of_one_to_six_signs_are_taken(self):
        die = [1, 2, 3, 4]
        for many in range(1, 7):
            for word in ("a" * many, "d" * many, "abcdab"[:many], "dcbadc"[:many]):
                with self.subTest(word=word):
                    self.assertEqual(overlaps(die, word, word)[-1], many)
                    self.assertEqual(beginnings(die, [word])[-1], word)
                    self.assertEqual(state_of(die, [word], word), word)
                    self.assertEqual(ended(die, [word], word), (many, 0))
                    self.assertEqual(shares(die, [word], ""), [(1, 1)])
                    self.assertEqual(mean(die, [word], ""), waiting(die, word))
                    self.assertGreater(odds(die, word, "b" * many)[0], 0)
                    self.assertEqual(ended_rows(die, [word], many), [1])
                    self.assertEqual(open_rows(die, [word], many), 4 ** many - 1)
                    self.assertEqual(shown(die, [word]), "1 2 3 4: " + word)

    def test_each_sign_of_the_die_is_taken(self):
        for many in (2, 3, 4):
            for sign in "abcd"[:many]:
                with self.subTest(many=many, sign=sign):
                    self.assertEqual(overlaps([1] * many, sign, sign), [1])
                    self.assertEqual(waiting([1] * many, sign), (many, 1))

    def test_no_word_is_refused_by_each_function(self):
        for die, words in BAD_WORDS:
            for word in words:
                with self.subTest(die=die, word=word):
                    for name, asked in ONE_WORD_FUNCTIONS:
                        with self.subTest(name=name), self.assertRaises(NoWord):
                            asked(die, word)
                    for name, asked in RACE_FUNCTIONS:
                        with self.subTest(name=name), self.assertRaises(NoWord):
                            asked(die, [word], "")

    def test_no_word_is_refused_at_any_place(self):
        for die, words in BAD_WORDS:
            for word in words:
                for race in ([word, "aa", "bb"], ["aa", word, "bb"], ["aa", "bb", "ab", word]):
                    with self.subTest(die=die, race=race):
                        for name, asked in RACE_FUNCTIONS:
                            with self.subTest(name=name), self.assertRaises(NoWord):
                                asked(die, race, "")

    def test_no_word_is_refused_on_either_side(self):
        for die, words in BAD_WORDS:
            for word in words:
                for one, other in ((word, "ab"), ("ab", word), (word, word)):
                    for name, asked in TWO_WORDS_FUNCTIONS:
                        with self.subTest(name=name, die=die, one=one, other=other), self.assertRaises(NoWord):
                            asked(die, one, other)


class Races(unittest.TestCase):
    def test_races_of_one_to_four_words_are_taken(self):
        for race in GOOD_RACES:
            with self.subTest(race=race):
                self.assertEqual(beginnings([1, 2, 3, 4], race)[0], "")
                self.assertEqual(state_of([1, 2, 3, 4], race, race[-1]), race[-1])
                self.assertEqual(ended([1, 2, 3, 4], race, race[-1]), (len(race[-1]), len(race) - 1))
                self.assertEqual(len(shares([1, 2, 3, 4], race, "")), len(race))
                self.assertEqual(len(mean([1, 2, 3, 4], race, "")), 2)
                self.assertEqual(open_rows([1, 2, 3, 4], race, 0), 1)
                self.assertGreaterEqual(ended_rows([1, 2, 3, 4], race, len(race[-1]))[-1], 1)
                self.assertEqual(shown([1, 2, 3, 4], race), "1 2 3 4: " + " ".join(race))

    def test_no_race_is_refused_by_each_function(self):
        for race in BAD_RACES:
            with self.subTest(race=race):
                for name, asked in RACE_FUNCTIONS:
                    with self.subTest(name=name), self.assertRaises(NoRace):
                        asked([1, 2, 3, 4], race, "ab")

    def test_words_are_refused_just_where_one_stands_within_another(self):
        texts = ["".join(signs) for many in (1, 2, 3, 4) for signs in itertools.product("ab", repeat=many)]
        for one, other in itertools.product(texts, repeat=2):
            for name, asked in RACE_FUNCTIONS:
                with self.subTest(name=name, one=one, other=other):
                    if one in other or other in one:
                        with self.assertRaises(NoRace):
                            asked([1, 1], [one, other], "")
                    else:
                        asked([1, 1], [one, other], "")

    def test_overlaps_asks_for_no_race(self):
        self.assertEqual(overlaps([1, 1], "ab", "ab"), [2])
        self.assertEqual(overlaps([1, 1], "a", "aba"), [1])
        self.assertEqual(overlaps([1, 1], "aba", "b"), [])


class Rows(unittest.TestCase):
    def test_rows_of_none_to_sixty_signs_are_taken(self):
        for many in (0, 1, 2, 59, 60):
            with self.subTest(many=many):
                self.assertEqual(state_of([1, 1], ["ab"], "b" * many), "")
                self.assertIsNone(ended([1, 1], ["ab"], "b" * many))
                self.assertEqual(shares([1, 1], ["ab"], "b" * many), [(1, 1)])
                self.assertEqual(mean([1, 1], ["ab"], "b" * many), (4, 1))

    def test_each_sign_of_the_die_is_taken(self):
        for many in (2, 3, 4):
            row = "abcd"[:many]
            with self.subTest(row=row):
                self.assertEqual(state_of([1] * many, ["aa"], row), "")
                self.assertEqual(ended([1] * many, [row], row), (many, 0))
                self.assertEqual(shares([1] * many, ["aa"], row), [(1, 1)])
                self.assertEqual(mean([1] * many, ["aa"], row), (many + many * many, 1))

    def test_a_row_may_hold_words(self):
        self.assertEqual(state_of([1, 1], ["ab"], "ababb"), "")
        self.assertEqual(ended([1, 1], ["ab"], "ababb"), (2, 0))

    def test_no_row_is_refused_by_each_function(self):
        for die, rows in BAD_ROWS:
            for row in rows:
                with self.subTest(die=die, row=row):
                    for name, asked in ROW_FUNCTIONS:
                        with self.subTest(name=name), self.assertRaises(NoRow):
                            asked(die, ["a", "b"], row)

    def test_no_row_is_refused_although_a_word_ends_it_ahead_of_the_fault(self):
        for row in ("abab!", "ab" + "a" * 59, "abc"):
            for name, asked in ROW_FUNCTIONS:
                with self.subTest(name=name, row=row), self.assertRaises(NoRow):
                    asked([1, 1], ["ab"], row)


class Order(unittest.TestCase):
    """Where several refusals are due, the one told first is due."""

    def refuse(self, error, die, words, row):
        for name, asked in ROW_FUNCTIONS:
            with self.subTest(name=name, die=die, words=words, row=row), self.assertRaises(error):
                asked(die, words, row)

    def refuse_race(self, error, die, words):
        for name, asked in (("beginnings", beginnings), ("shown", shown)):
            with self.subTest(name=name, die=die, words=words), self.assertRaises(error):
                asked(die, words)
        for many in (0, 5, 60, -1, 61, FAR, -FAR):
            for name, asked in COUNT_FUNCTIONS:
                with self.subTest(name=name, die=die, words=words, far=abs(many) == FAR), self.assertRaises(error):
                    asked(die, words, many)

    def test_no_die_goes_ahead_of_all(self):
        for die in ([], [1], [1, 0], [10, 1, 1], [1] * 5):
            for words in (["a"], ["A"], [""], [], ["a", "a"], ["aaaaaaa", "a", "a"], ["e"] * 9):
                self.refuse_race(NoDie, die, words)
                for row in ("", "a", "A", "a" * 61):
                    self.refuse(NoDie, die, words, row)

    def test_no_die_goes_ahead_of_single_words(self):
        for die in ([], [1], [1, 0], [10, 1, 1], [1] * 5):
            for one, other in (("", ""), ("A", "a"), ("a", "A"), ("aaaaaaa", "e"), ("e", "a"), ("a", "a"), ("a", "bb")):
                for name, asked in TWO_WORDS_FUNCTIONS:
                    with self.subTest(name=name, die=die, one=one, other=other), self.assertRaises(NoDie):
                        asked(die, one, other)
            for word in ("", "A", "e", "aaaaaaa", "aaaaaa", "abcd"):
                for name, asked in ONE_WORD_FUNCTIONS:
                    with self.subTest(name=name, die=die, word=word), self.assertRaises(NoDie):
                        asked(die, word)

    def test_no_word_goes_ahead_of_no_race_and_no_row(self):
        for words in (
            ["c", "c"], ["a", "a", "A"], ["A", "a", "a"], ["a", "ab", ""], ["", ""], ["aa", "aa", "aaaaaaa"],
            ["aa", "ab", "ba", "bb", "c"], ["aa", "ab", "ba", "bb", "aaa", "aab", "aba", "abb", "x"],
            ["a", "aaaaaaa"], ["ab", "abc"],
        ):
            self.refuse_race(NoWord, [1, 1], words)
            for row in ("", "a", "ab", "c", "a" * 61):
                self.refuse(NoWord, [1, 1], words, row)

    def test_no_word_goes_ahead_of_no_race_in_odds(self):
        for one, other in (
            ("c", "c"), ("", ""), ("", "a"), ("a", ""), ("ab", "c"), ("c", "ab"), ("aaaaaaa", "a"), ("a", "aaaaaaa"),
            ("aaaaaaa", "aaaaaaa"), ("A", "A"), ("aab", "aabc"),
        ):
            with self.subTest(one=one, other=other), self.assertRaises(NoWord):
                odds([1, 1], one, other)

    def test_no_word_goes_ahead_of_too_many(self):
        for word in ("aaaaaaa", "a" * 99, "aaaaac", "Aaaaaa", "aaaaa "):
            with self.subTest(word=word), self.assertRaises(NoWord):
                answer([1, 1], word)
        with self.assertRaises(TooMany):
            answer([1, 1], "aaaaaa")

    def test_no_race_goes_ahead_of_no_row_and_over(self):
        for words in ([], ["a", "a"], ["a", "ba"], ["ab", "bb", "abb"], ["aa", "ab", "ba", "bb", "aaa"]):
            self.refuse_race(NoRace, [1, 1], words)
            for row in ("", "ab", "aba", "c", "A", " ", "a" * 61, "e" * 99):
                self.refuse(NoRace, [1, 1], words, row)

    def test_no_row_goes_ahead_of_over(self):
        for row in ("abc", "cab", "ab ", "ABab", "ab" * 31, "ab" + "b" * 59, "b" * 99 + "ab"):
            self.refuse(NoRow, [1, 1], ["ab"], row)
        for asked in (shares, mean):
            with self.assertRaises(Over):
                asked([1, 1], ["ab"], "ab" * 30)


if __name__ == "__main__":
    unittest.main()
