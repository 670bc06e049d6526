"""What dice, words, races and rows are, with the refusals of those that are none, and the states of rows."""

from wordrace.errors import NoDie, NoRace, NoRow, NoWord

SIGNS = "abcd"
LEAST_WEIGHTS = 2
MOST_WEIGHTS = 4
LEAST_WEIGHT = 1
MOST_WEIGHT = 9
MOST_SIGNS = 6
MOST_WORDS = 4
MOST_THROWS = 60


def signs_of(die):
    return SIGNS[:len(die)]


def is_thrown(die, text):
    signs = signs_of(die)
    return all([sign in signs for sign in text])


# The refusals' words show nothing of what was handed in: Python itself
# refuses to write a number that is too far.
def check_die(die):
    if len(die) < LEAST_WEIGHTS or len(die) > MOST_WEIGHTS:
        raise NoDie("a die has 2 to 4 weights")
    if min(die) < LEAST_WEIGHT or max(die) > MOST_WEIGHT:
        raise NoDie("a weight is a number from 1 to 9")


def check_word(die, word):
    if len(word) < 1 or len(word) > MOST_SIGNS:
        raise NoWord("a word has 1 to 6 signs")
    if not is_thrown(die, word):
        raise NoWord("a word has signs of its die alone")


def stands_within_another(words, place):
    others = words[:place] + words[place + 1:]
    return any([words[place] in other for other in others])


# Every word is looked at ahead of the list as a whole: NoWord goes ahead of NoRace.
def check_race(die, words):
    check_die(die)
    for word in words:
        check_word(die, word)
    if len(words) < 1 or len(words) > MOST_WORDS:
        raise NoRace("a race has 1 to 4 words")
    if any([stands_within_another(words, place) for place in range(len(words))]):
        raise NoRace("no word of a race stands within another one")


def check_row(die, row):
    if len(row) > MOST_THROWS:
        raise NoRow("a row has at most 60 signs")
    if not is_thrown(die, row):
        raise NoRow("a row has signs of its die alone")


def beginnings_of(words):
    texts = [""]
    for word in words:
        texts.extend([word[:many] for many in range(1, len(word) + 1)])
    # The second sorting leaves texts of one length in the order of the first, the alphabet's.
    return sorted(sorted(set(texts)), key=len)


# Behind a state and one more sign this tells the next state, as behind a whole row.
def longest_at_end(begun, text):
    return max([beginning for beginning in begun if text.endswith(beginning)], key=len)
