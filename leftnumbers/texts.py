"""Left numbers as texts: the prime, the least place, a colon, the figures from the greatest place down."""

from leftnumbers.errors import NoText
from leftnumbers.lefts import is_left

MOST_FIGURES = 31
DECIMALS = "0123456789"


def show_left(one):
    words = [str(one[0]), str(one[1]), ":"] + [str(figure) for figure in reversed(one[2])]
    return " ".join(words)


def is_whole_text(text):
    figures = text[1:] if text.startswith("-") else text
    if len(figures) == 0 or len(figures) > MOST_FIGURES:
        return False
    # Python's isdigit and int know figures of other scripts too.
    if any([sign not in DECIMALS for sign in figures]):
        return False
    return text == "0" or not figures.startswith("0")


def read_left(text):
    if not isinstance(text, str):
        raise NoText("a left number is read of a text")
    words = text.split(" ")
    if len(words) < 3 or words[2] != ":":
        raise NoText("a prime, a least place and a colon are written ahead of the figures")
    numbers = words[:2] + words[3:]
    if not all([is_whole_text(word) for word in numbers]):
        raise NoText("a word of the text is no whole number as they are written here")
    figures = [int(word) for word in reversed(words[3:])]
    one = (int(words[0]), int(words[1]), tuple(figures))
    if not is_left(one):
        raise NoText("what the text tells is no left number")
    return one
