"""Heaps written as a text, and read from one."""

from joinedheaps.errors import NoHeaps

FIGURES = "0123456789"


def writes_number(word):
    """Whether a word is a number in figures, without a nought ahead."""
    # The figures are looked at one by one: int() and isdigit() let by more than these ten.
    if word == "" or any(sign not in FIGURES for sign in word):
        return False
    return word == "0" or not word.startswith("0")


def read_heaps(text):
    """The heaps that a text writes; NoHeaps with the first word that is no weight."""
    # Splitting would find one empty word in the text that writes no heaps.
    if text == "":
        return ()
    weights = []
    for place, word in enumerate(text.split(" ")):
        if not writes_number(word):
            raise NoHeaps(place)
        weights.append(int(word))
    return tuple(weights)


def in_one_row(numbers):
    """Numbers written in one row."""
    return " ".join(str(number) for number in numbers)


def heaps_shown(heaps):
    """The text that writes these heaps."""
    return in_one_row(heaps)
