"""Overlaps of words, the beginnings of a race, the state of a row, and where a word ends a row."""

from wordrace.parts import beginnings_of, check_die, check_race, check_row, check_word, longest_at_end


def overlaps(die, one, other):
    check_die(die)
    check_word(die, one)
    check_word(die, other)
    shorter = min(len(one), len(other))
    return [many for many in range(1, shorter + 1) if one.endswith(other[:many])]


def beginnings(die, words):
    check_race(die, words)
    return beginnings_of(words)


def state_of(die, words, row):
    check_race(die, words)
    check_row(die, row)
    return longest_at_end(beginnings_of(words), row)


# At one throw at most one word ends the row, since none stands within another one.
def ended(die, words, row):
    check_race(die, words)
    check_row(die, row)
    for throws in range(1, len(row) + 1):
        for place, word in enumerate(words):
            if row[:throws].endswith(word):
                return (throws, place)
    return None
