"""How a race is written, and how it is read."""

from wordrace.errors import NoNote, RaceError
from wordrace.parts import check_race

FIGURES = "123456789"


def shown(die, words):
    check_race(die, words)
    weights = " ".join([str(weight) for weight in die])
    listed = " ".join(words)
    return f"{weights}: {listed}"


def read_weight(text):
    # The length is asked too: the empty text and several figures in a row stand within the figures.
    if len(text) != 1 or text not in FIGURES:
        raise NoNote("a weight is written by one figure from 1 to 9")
    return int(text)


def read(text):
    halves = text.split(":")
    if len(halves) != 2:
        raise NoNote("a race is written with one colon")
    if not halves[1].startswith(" "):
        raise NoNote("a blank stands ahead of each word")
    die = [read_weight(weight) for weight in halves[0].split(" ")]
    words = halves[1][1:].split(" ")
    try:
        check_race(die, words)
    except RaceError as refusal:
        raise NoNote("the weights and words are no race") from refusal
    return (die, words)
