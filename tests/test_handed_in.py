"""What is handed in is not changed and not kept; what is told is the asker's own: point 1."""

import unittest

from wordrace.errors import NoDie, NoRace, NoRow, NoWord, RaceError
from wordrace.words import beginnings, ended, overlaps, state_of


def ask_all(die, words, row):
    """All answers to what is handed in, each refusal as its class."""
    told = []
    for asked in (
        lambda: overlaps(die, words[0], words[-1]),
        lambda: beginnings(die, words),
        lambda: state_of(die, words, row),
        lambda: ended(die, words, row),
    ):
        try:
            told.append(asked())
        except RaceError as error:
            told.append(type(error))
    return told


class HandedIn(unittest.TestCase):
    def test_the_lists_are_as_they_were(self):
        for die, words, row in (
            ([3, 1], ["bba", "aab"], "abaabb"),
            ([9, 2, 5, 1], ["dd", "cab", "ba", "aac"], "dabcab"),
            ([2, 1], ["b", "ab", "b"], "ab"),
            ([2, 1, 0], ["ba", "ab"], "ab"),
            ([2, 1], ["ba", "ab", "c"], "ab"),
            ([2, 1], ["ba", "ab"], "c"),
        ):
            with self.subTest(die=die, words=words, row=row):
                same_die, same_words = list(die), list(words)
                ask_all(die, words, row)
                self.assertEqual(die, same_die)
                self.assertEqual(words, same_words)

    def test_words_changed_later_are_asked_anew(self):
        die, words = [1, 1], ["ab"]
        self.assertEqual(ask_all(die, words, "aab"), [[2], ["", "a", "ab"], "ab", (3, 0)])
        words[0] = "aa"
        self.assertEqual(ask_all(die, words, "aab"), [[1, 2], ["", "a", "aa"], "", (2, 0)])
        words.append("b")
        self.assertEqual(ask_all(die, words, "aab"), [[], ["", "a", "b", "aa"], "b", (2, 0)])
        words.append("ab")
        self.assertEqual(ask_all(die, words, "aab"), [[1], NoRace, NoRace, NoRace])
        words.append("c")
        self.assertEqual(ask_all(die, words, "aab"), [NoWord, NoWord, NoWord, NoWord])

    def test_a_die_changed_later_is_asked_anew(self):
        die, words = [1, 1, 1], ["ac"]
        self.assertEqual(ask_all(die, words, "bac"), [[2], ["", "a", "ac"], "ac", (3, 0)])
        die.pop()
        self.assertEqual(ask_all(die, words, "bac"), [NoWord] * 4)
        self.assertEqual(ask_all(die, ["ab"], "bac"), [[2], ["", "a", "ab"], NoRow, NoRow])
        die[1] = 0
        self.assertEqual(ask_all(die, words, "bac"), [NoDie] * 4)
        die[1] = 9
        die.append(9)
        self.assertEqual(ask_all(die, words, "bac"), [[2], ["", "a", "ac"], "ac", (3, 0)])

    def test_what_was_told_stays_when_what_was_handed_in_changes(self):
        die, words = [1, 1], ["aba", "bb"]
        laps, begun = overlaps(die, words[0], words[0]), beginnings(die, words)
        die.append(5)
        words[0] = "c"
        words.pop()
        self.assertEqual(laps, [1, 3])
        self.assertEqual(begun, ["", "a", "b", "ab", "bb", "aba"])


class Told(unittest.TestCase):
    def test_a_list_told_may_be_changed(self):
        for asked in (
            lambda: overlaps([1, 1], "aba", "aba"),
            lambda: overlaps([1, 1], "a", "b"),
            lambda: beginnings([1, 1], ["aab", "bb"]),
            lambda: beginnings([1, 1], ["a"]),
        ):
            told = asked()
            same = list(told)
            told.append("x")
            told[0] = "y"
            self.assertEqual(asked(), same)
            told.clear()
            self.assertEqual(asked(), same)

    def test_each_call_tells_a_list_of_its_own(self):
        self.assertIsNot(overlaps([1, 1], "aba", "aba"), overlaps([1, 1], "aba", "aba"))
        one, other = beginnings([1, 1], ["ab"]), beginnings([1, 1], ["ab"])
        self.assertIsNot(one, other)

    def test_a_list_told_hangs_on_no_other_function(self):
        words = ["aab", "bb"]
        beginnings([1, 1], words).clear()
        overlaps([1, 1], "aab", "bb").clear()
        self.assertEqual(state_of([1, 1], words, "babaa"), "aa")
        self.assertEqual(ended([1, 1], words, "babaab"), (6, 0))


if __name__ == "__main__":
    unittest.main()
