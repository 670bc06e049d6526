"""How many rows of so many throws are open, and how many each word ends at the last throw."""

from wordrace.errors import NoRow
from wordrace.parts import MOST_THROWS, beginnings_of, check_race, longest_at_end, signs_of


def check_many(many):
    if many < 0 or many > MOST_THROWS:
        raise NoRow("a row has 0 to 60 throws")


# A row that has come to a word is over and goes no farther.
def one_throw_more(die, words, counted):
    begun = beginnings_of(words)
    longer = {}
    for state, number in counted.items():
        if state not in words:
            for sign in signs_of(die):
                after = longest_at_end(begun, state + sign)
                longer[after] = longer.get(after, 0) + number
    return longer


# For each state the number of rows with it that are open without their last throw.
def rows_by_state(die, words, many):
    counted = {"": 1}
    for throw in range(many):
        counted = one_throw_more(die, words, counted)
    return counted


def open_rows(die, words, many):
    check_race(die, words)
    check_many(many)
    counted = rows_by_state(die, words, many)
    return sum([number for state, number in counted.items() if state not in words])


def ended_rows(die, words, many):
    check_race(die, words)
    check_many(many)
    counted = rows_by_state(die, words, many)
    return [counted.get(word, 0) for word in words]
