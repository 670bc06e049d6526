"""How a race is written and read: point 14."""

import itertools
import unittest

from wordrace.errors import NoNote
from wordrace.notes import read, shown

RACES = (
    ([3, 1], ["aab", "ba"], "3 1: aab ba"),
    ([1, 1], ["a"], "1 1: a"),
    ([9, 9], ["bbbbbb"], "9 9: bbbbbb"),
    ([1, 2, 3], ["c"], "1 2 3: c"),
    ([9, 8, 7, 6], ["dcbadc", "ab", "cccc", "bdb"], "9 8 7 6: dcbadc ab cccc bdb"),
    ([4, 5, 6, 7], ["d", "c", "b", "a"], "4 5 6 7: d c b a"),
    ([1, 1, 1, 1], ["abcdab", "bcdabc", "cdabcd", "dabcda"], "1 1 1 1: abcdab bcdabc cdabcd dabcda"),
)
NO_NOTES = (
    "", " ", ":", ": ", " :", "\n", "\t", "a", "3 1", "3 1:", "3 1: ", "3 1:  ", ": aab ba", " : aab ba", "aab ba",
    # A colon too few or too many, or at another place.
    "3 1 aab ba", "3 1:: aab ba", "3 1: aab: ba", "3 1: aab ba:", ":3 1: aab ba", "3: 1: aab ba", "3 1 : aab ba",
    "3 1 :aab ba", "3 :1 aab ba", "3: 1 aab ba", "3 1 aab: ba", "3 1; aab ba", "3 1: : aab ba",
    # A blank too few or too many.
    "31: aab ba", "3  1: aab ba", " 3 1: aab ba", "3 1:aab ba", "3 1:  aab ba", "3 1: aab  ba", "3 1: aab ba ",
    "3 1: a ab ba", "3 1:aab", " 3 1: a", "3 1: a ", "3 1 1 :a", "3 1: aab ba  ", "  3 1: aab ba",
    # Tabs and line ends.
    "3\t1: aab ba", "3 1:\taab ba", "3 1: aab\tba", "3 1: aab ba\t", "\t3 1: aab ba", "3 1: aab ba\n", "\n3 1: aab ba",
    "3\n1: aab ba", "3 1:\naab ba", "3 1: aab\nba", "3 1: aab ba\n\n", "3 1:\n aab ba", "3 1\n: aab ba",
    "3\t 1: aab ba", "3 1: aab \nba", "3 1: a\nb ba",
    # A weight of nought, of two figures, of another sign.
    "0 1: aab ba", "3 0: aab ba", "0 0: a", "3 1 0: aab ba", "10 1: aab ba", "3 12: aab ba", "03 1: aab ba",
    "3 01: aab ba", "3 00: aab ba", "3 123456789: a", "-3 1: aab ba", "3 -1: aab ba", "+3 1: aab ba", "3 +1: aab ba",
    "a 1: aab ba", "3 b: aab ba", "3 1.: aab ba", "3 1_: aab ba", "3 ~: aab ba", "3,1: aab ba", "3, 1: aab ba",
    "3.0 1: aab ba", "0x3 1: aab ba", "( 1: aab ba", "/ 1: aab ba", "[3, 1]: aab ba", "I 1: a", "3 l: a",
    # Too few or too many weights.
    "3: a", "3: aaa", "1: b", "1 1 1 1 1: a", "1 2 3 4 5: aab ba", "1 1 1 1 1 1 1 1 1: a",
    # Too few or too many words.
    "1 1: aa ab ba bb aaa", "1 1 1: aa ab ac ba bb", "1 1 1 1: aa ab ac ad ba", "1 1: aaa aab aba abb baa",
    "1 1: aaa aab aba abb baa bab bba bbb",
    # A word that is none.
    "3 1: aab bc", "3 1: c", "3 1: aab d", "1 1 1: d", "1 1 1 1: e", "3 1: aaaaaaa", "3 1: A", "3 1: aaB ba",
    "3 1: aab,ba", "3 1: aab, ba", "3 1: 3 1", "3 1: a1", "3 1: aab ba!", "3 1: 'a'", '3 1: "a"', "3 1: ~", "3 1: -",
    "3 1: aab bbbbbbbbbbbbbbbbbbbbbbbbbbbbbbbbbbbbbbbbbbbbbbbbbb",
    # Words that are no race.
    "3 1: a a", "3 1: aab aab", "3 1: aab ab", "3 1: ab aab", "3 1: aab b", "3 1: ab ba abb", "3 1: aa bb ab aa",
    "1 1 1: abca bc", "1 1 1: b abc",
)


class Shown(unittest.TestCase):
    def test_how_a_race_is_written(self):
        for die, words, text in RACES:
            with self.subTest(text=text):
                self.assertEqual(shown(die, words), text)

    def test_the_order_of_the_weights_and_words_stays(self):
        for order in itertools.permutations(["cab", "bb", "ac", "aab"]):
            for weights in itertools.permutations([5, 3, 1]):
                with self.subTest(order=order, weights=weights):
                    expected = "{} {} {}: {} {} {} {}".format(*weights, *order)
                    self.assertEqual(shown(list(weights), list(order)), expected)

    def test_the_kind(self):
        self.assertIs(type(shown([3, 1], ["aab", "ba"])), str)


class Read(unittest.TestCase):
    def test_how_a_race_is_read(self):
        for die, words, text in RACES:
            with self.subTest(text=text):
                self.assertEqual(read(text), (die, words))

    def test_what_is_shown_is_read_to_the_same(self):
        texts = ["".join(word) for many in (1, 2, 3) for word in itertools.product("ab", repeat=many)]
        for one, other in itertools.permutations(texts, 2):
            if one in other or other in one:
                continue
            self.assertEqual(read(shown([7, 2], [one, other])), ([7, 2], [one, other]), (one, other))
        for many in (2, 3, 4):
            for weights in itertools.product((1, 4, 5, 9), repeat=many):
                die = list(weights)
                self.assertEqual(read(shown(die, ["aab", "bb"])), (die, ["aab", "bb"]), die)

    def test_every_weight_of_one_figure_is_read(self):
        for weight in range(1, 10):
            with self.subTest(weight=weight):
                self.assertEqual(read(f"{weight} {10 - weight}: ab"), ([weight, 10 - weight], ["ab"]))

    def test_what_writes_no_race_is_refused(self):
        for text in NO_NOTES:
            with self.subTest(text=text), self.assertRaises(NoNote):
                read(text)

    def test_texts_of_sixty_signs_are_refused(self):
        for text in (
            "a" * 60, " " * 60, ":" * 60, "1 " * 30, "1 1: " + "ab " * 18 + "a", "\n" * 60, "3 1: ab" + " " * 53,
        ):
            self.assertEqual(len(text), 60)
            with self.subTest(text=text), self.assertRaises(NoNote):
                read(text)

    def test_a_text_with_one_sign_changed_is_read_just_where_it_is_shown_so(self):
        signs = "\t\n" + "".join(chr(number) for number in range(32, 127) if chr(number) != "%")
        for text in ("3 1: aab ba", "1 2 3: c"):
            changed = {text[:place] + text[place + 1:] for place in range(len(text))}
            for sign in signs:
                changed.update(text[:place] + sign + text[place:] for place in range(len(text) + 1))
                changed.update(text[:place] + sign + text[place + 1:] for place in range(len(text)))
            for other in sorted(changed):
                try:
                    told = read(other)
                except NoNote:
                    told = None
                self.assertEqual(told, read_by_the_document(other), repr(other))

    def test_the_kinds(self):
        told = read("3 1: aab ba")
        self.assertIs(type(told), tuple)
        self.assertEqual([type(part) for part in told], [list, list])
        self.assertEqual([type(weight) for weight in told[0]], [int, int])
        self.assertEqual([type(word) for word in told[1]], [str, str])


def read_by_the_document(text):
    """The die and words that the text writes, found sign by sign, or None."""
    weights, words, place = [], [], 0
    while place < len(text) and text[place] in list("123456789"):
        weights.append(int(text[place]))
        place += 1
        if text[place:place + 1] != " ":
            break
        place += 1
    if text[place:place + 1] != ":" or (place and text[place - 1] == " "):
        return None
    place += 1
    while place < len(text):
        start = place + 1
        if text[place] != " ":
            return None
        place = start
        while place < len(text) and text[place] in list("abcd"[:len(weights)]):
            place += 1
        words.append(text[start:place])
    if len(weights) not in (2, 3, 4) or len(words) not in (1, 2, 3, 4):
        return None
    if any(len(word) not in range(1, 7) for word in words):
        return None
    if any(one in other for one, other in itertools.permutations(words, 2)):
        return None
    return weights, words


if __name__ == "__main__":
    unittest.main()
