"""What is handed in is not changed and not kept; what is told is the asker's own: point 1."""

import unittest

from wordrace.counts import ended_rows, open_rows
from wordrace.errors import NoDie, NoNote, NoRace, NoRow, NoWord, Over, RaceError, TooMany
from wordrace.notes import read, shown
from wordrace.races import answer, mean, odds, shares, waiting
from wordrace.words import beginnings, ended, overlaps, state_of


def told_or_refused(asked):
    try:
        return asked()
    except RaceError as error:
        return type(error)


def ask_words(die, words, row):
    """All answers of wordrace.words to what is handed in, each refusal as its class."""
    return [told_or_refused(asked) for asked in (
        lambda: overlaps(die, words[0], words[-1]),
        lambda: beginnings(die, words),
        lambda: state_of(die, words, row),
        lambda: ended(die, words, row),
    )]


def ask_others(die, words, row):
    """All answers of the other modules, likewise."""
    return [told_or_refused(asked) for asked in (
        lambda: waiting(die, words[0]),
        lambda: shares(die, words, row),
        lambda: mean(die, words, row),
        lambda: odds(die, words[0], words[-1]),
        lambda: answer(die, words[0]),
        lambda: open_rows(die, words, len(row)),
        lambda: ended_rows(die, words, len(row)),
        lambda: shown(die, words),
    )]


def lists_in(told):
    """Every list of what is told, the ones within others too."""
    found = [told] if isinstance(told, list) else []
    if isinstance(told, (list, tuple)):
        for part in told:
            found.extend(lists_in(part))
    return found


class HandedIn(unittest.TestCase):
    def test_the_lists_are_as_they_were(self):
        for die, words, row in (
            ([3, 1], ["bba", "aab"], "abaabb"),
            ([9, 2, 5, 1], ["dd", "cab", "ba", "aac"], "dabcab"),
            ([9, 2, 5, 1], ["dd", "cab", "ba", "aac"], "dabcad"),
            ([1, 5], ["bbaaba", "ababab"], "bbaab"),
            ([2, 1], ["b", "ab", "b"], "ab"),
            ([2, 1, 0], ["ba", "ab"], "ab"),
            ([2, 1], ["ba", "ab", "c"], "ab"),
            ([2, 1], ["ba", "ab"], "c"),
        ):
            with self.subTest(die=die, words=words, row=row):
                same_die, same_words = list(die), list(words)
                ask_words(die, words, row)
                ask_others(die, words, row)
                self.assertEqual(die, same_die)
                self.assertEqual(words, same_words)

    def test_words_changed_later_are_asked_anew(self):
        die, words = [1, 1], ["ab"]
        self.assertEqual(ask_words(die, words, "aab"), [[2], ["", "a", "ab"], "ab", (3, 0)])
        words[0] = "aa"
        self.assertEqual(ask_words(die, words, "aab"), [[1, 2], ["", "a", "aa"], "", (2, 0)])
        words.append("b")
        self.assertEqual(ask_words(die, words, "aab"), [[], ["", "a", "b", "aa"], "b", (2, 0)])
        words.append("ab")
        self.assertEqual(ask_words(die, words, "aab"), [[1], NoRace, NoRace, NoRace])
        words.append("c")
        self.assertEqual(ask_words(die, words, "aab"), [NoWord, NoWord, NoWord, NoWord])

    def test_a_die_changed_later_is_asked_anew(self):
        die, words = [1, 1, 1], ["ac"]
        self.assertEqual(ask_words(die, words, "bac"), [[2], ["", "a", "ac"], "ac", (3, 0)])
        die.pop()
        self.assertEqual(ask_words(die, words, "bac"), [NoWord] * 4)
        self.assertEqual(ask_words(die, ["ab"], "bac"), [[2], ["", "a", "ab"], NoRow, NoRow])
        die[1] = 0
        self.assertEqual(ask_words(die, words, "bac"), [NoDie] * 4)
        die[1] = 9
        die.append(9)
        self.assertEqual(ask_words(die, words, "bac"), [[2], ["", "a", "ac"], "ac", (3, 0)])

    def test_what_is_handed_in_changed_later_is_asked_anew_by_the_other_modules(self):
        die, words = [1, 1], ["ab"]
        self.assertEqual(
            ask_others(die, words, "a"), [(4, 1), [(1, 1)], (2, 1), NoRace, "aa", 2, [0], "1 1: ab"]
        )
        die[0] = 3
        self.assertEqual(
            ask_others(die, words, "a"), [(16, 3), [(1, 1)], (4, 1), NoRace, "aa", 2, [0], "3 1: ab"]
        )
        words.append("bb")
        self.assertEqual(
            ask_others(die, words, "a"),
            [(16, 3), [(1, 1), (0, 1)], (4, 1), (15, 16), "aa", 2, [0, 0], "3 1: ab bb"],
        )
        words[0] = "a"
        self.assertEqual(
            ask_others(die, words, "a"), [(4, 3), Over, Over, NoRace, "b", 1, [1, 0], "3 1: a bb"]
        )
        words[0] = "bbaaba"
        self.assertEqual(ask_others(die, words, "a")[3:6], [NoRace, TooMany, NoRace])
        words[1] = "c"
        self.assertEqual(ask_others(die, words, "a")[5:], [NoWord, NoWord, NoWord])
        die.append(0)
        self.assertEqual(ask_others(die, words, "a"), [NoDie] * 8)

    def test_what_was_told_stays_when_what_was_handed_in_changes(self):
        die, words = [1, 1], ["aba", "bb"]
        laps, begun = overlaps(die, words[0], words[0]), beginnings(die, words)
        first, ends = shares(die, words, "ab"), ended_rows(die, words, 3)
        die.append(5)
        words[0] = "c"
        words.pop()
        self.assertEqual(laps, [1, 3])
        self.assertEqual(begun, ["", "a", "b", "ab", "bb", "aba"])
        self.assertEqual(first, [(1, 2), (1, 2)])
        self.assertEqual(ends, [1, 1])


class Told(unittest.TestCase):
    ASKED = (
        lambda: overlaps([1, 1], "aba", "aba"),
        lambda: overlaps([1, 1], "a", "b"),
        lambda: beginnings([1, 1], ["aab", "bb"]),
        lambda: beginnings([1, 1], ["a"]),
        lambda: shares([3, 1], ["aab", "ba"], ""),
        lambda: shares([1, 1], ["a"], ""),
        lambda: ended_rows([1, 1], ["aab", "ba"], 7),
        lambda: ended_rows([1, 1], ["a"], 0),
        lambda: read("3 1: aab ba"),
        lambda: read("1 1: a"),
    )

    def test_a_list_told_may_be_changed(self):
        for asked in self.ASKED:
            same = repr(asked())
            for told in lists_in(asked()):
                told.append("x")
                told[0] = "y"
                self.assertEqual(repr(asked()), same)
                told.clear()
                self.assertEqual(repr(asked()), same)

    def test_no_two_lists_of_what_is_told_are_one(self):
        told = [asked() for asked in self.ASKED + self.ASKED]
        found = lists_in(tuple(told))
        self.assertEqual(len(found), 24)
        self.assertEqual(len({id(one) for one in found}), 24)

    def test_no_list_told_is_one_handed_in(self):
        die, words = [2, 1], ["aab", "ba"]
        for told in (
            beginnings(die, words), shares(die, words, ""), ended_rows(die, words, 4), overlaps(die, "ab", "ba"),
        ):
            self.assertIsNot(told, die)
            self.assertIsNot(told, words)

    def test_a_race_read_may_be_changed(self):
        die, words = read("3 1: aab ba")
        die.append(9)
        words[0] = "c"
        self.assertEqual(shown(die, words), "3 1 9: c ba")
        self.assertEqual(read("3 1: aab ba"), ([3, 1], ["aab", "ba"]))
        self.assertIs(told_or_refused(lambda: read("3 1 9: c ba:")), NoNote)

    def test_a_list_told_hangs_on_no_other_function(self):
        words = ["aab", "bb"]
        beginnings([1, 1], words).clear()
        overlaps([1, 1], "aab", "bb").clear()
        shares([1, 1], words, "").clear()
        ended_rows([1, 1], words, 6).clear()
        self.assertEqual(state_of([1, 1], words, "babaa"), "aa")
        self.assertEqual(ended([1, 1], words, "babaab"), (6, 0))
        self.assertEqual(mean([1, 1], words, "babaa"), (2, 1))
        self.assertEqual(ended_rows([1, 1], words, 2), [0, 1])


if __name__ == "__main__":
    unittest.main()
