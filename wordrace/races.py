"""How long one waits for a word, which word of a race comes first, and the answer to a word."""

from wordrace.errors import NoRace, Over, TooMany
from wordrace.parts import beginnings_of, check_die, check_word, longest_at_end, signs_of
from wordrace.words import ended, overlaps, state_of

MOST_ANSWERS = 32


def common_factor(numbers):
    factor = 0
    for number in numbers:
        rest = abs(number)
        while rest != 0:
            smaller = factor % rest
            factor = rest
            rest = smaller
    return factor


def share_of(top, bottom):
    factor = common_factor([top, bottom])
    return (top // factor, bottom // factor)


def added(one, other):
    return share_of(one[0] * other[1] + other[0] * one[1], one[1] * other[1])


def taken_away(one, other):
    return share_of(one[0] * other[1] - other[0] * one[1], one[1] * other[1])


def is_greater(one, other):
    return one[0] * other[1] > other[0] * one[1]


def worth(die, text):
    top = 1
    bottom = 1
    for sign in text:
        top = top * sum(die)
        bottom = bottom * die[signs_of(die).index(sign)]
    return share_of(top, bottom)


def one_with_other(die, one, other):
    together = (0, 1)
    for many in overlaps(die, one, other):
        together = added(together, worth(die, other[:many]))
    return together


def waiting(die, word):
    check_die(die)
    check_word(die, word)
    return one_with_other(die, word, word)


# Point 10's sum times all weights, brought to one side, so that it comes to nought: a number for
# what is told behind each beginning, and a last one for the throw itself. Shares leave the last
# number out; the mean leaves the words' numbers out, since behind a word it is nought.
def equation_of(die, begun, state):
    numbers = [0 for beginning in begun]
    numbers[begun.index(state)] = sum(die)
    for sign, weight in zip(signs_of(die), die):
        place = begun.index(longest_at_end(begun, state + sign))
        numbers[place] = numbers[place] - weight
    return numbers + [-sum(die)]


# The used equation's state falls out. A state's own number stays above nought, since behind each
# state a word may come ahead of any way back to it.
def freed_of(place, used, equation):
    numbers = [own * used[place] - other * equation[place] for own, other in zip(equation, used)]
    # Without this the numbers would get twice as long with each state.
    factor = common_factor(numbers)
    return [number // factor for number in numbers]


# The state's equation, freed of all other states that are no words.
def solved(die, words, state):
    begun = beginnings_of(words)
    others = [text for text in begun if text not in words and text != state]
    equations = [equation_of(die, begun, text) for text in others + [state]]
    for other in others:
        place = begun.index(other)
        equations = [freed_of(place, equations[0], equation) for equation in equations[1:]]
    return equations[0]


def state_of_open(die, words, row):
    # This comes first: what is no die, word, race or row is refused ahead of a row that is over.
    state = state_of(die, words, row)
    if ended(die, words, row) is not None:
        raise Over("a row that holds a word is not open")
    return state


def shares(die, words, row):
    state = state_of_open(die, words, row)
    begun = beginnings_of(words)
    numbers = solved(die, words, state)
    return [share_of(-numbers[begun.index(word)], numbers[begun.index(state)]) for word in words]


def mean(die, words, row):
    state = state_of_open(die, words, row)
    begun = beginnings_of(words)
    numbers = solved(die, words, state)
    return share_of(-numbers[-1], numbers[begun.index(state)])


def odds(die, one, other):
    check_die(die)
    check_word(die, one)
    check_word(die, other)
    if len(one) != len(other) or one == other:
        raise NoRace("two words as long as one another are wanted, and not one word twice")
    first = taken_away(one_with_other(die, other, other), one_with_other(die, other, one))
    second = taken_away(one_with_other(die, one, one), one_with_other(die, one, other))
    both = added(first, second)
    return share_of(first[0] * both[1], first[1] * both[0])


def number_of_words(die, length):
    number = 1
    for step in range(length):
        number = number * len(die)
    return number


# They come by the alphabet, since the signs do.
def all_words(die, length):
    texts = [""]
    for step in range(length):
        longer = []
        for text in texts:
            longer.extend([text + last for last in signs_of(die)])
        texts = longer
    return texts


def answer(die, word):
    check_die(die)
    check_word(die, word)
    if number_of_words(die, len(word)) > MOST_ANSWERS:
        raise TooMany("an answer is told among at most 32 words")
    rivals = [text for text in all_words(die, len(word)) if text != word]
    best = rivals[0]
    for rival in rivals:
        if is_greater(odds(die, rival, word), odds(die, best, word)):
            best = rival
    return best
