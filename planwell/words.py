"""Parting a text into its words."""

from planwell.errors import BadText

MOST_SIGNS = 6000
MOST_LETTERS = 8
MOST_FIGURES = 9

GAPS = " \n"
LETTERS = "abcdefghijklmnopqrstuvwxyz"
FIGURES = "0123456789"
SHORT_MARKS = ".,:()+-*/="
LONG_MARKS = ("<=", ">=")


def words(text):
    if not isinstance(text, str):
        raise BadText("what is handed in is no text")
    if len(text) > MOST_SIGNS:
        raise BadText("the text is too long")
    found = []
    at = 0
    while at < len(text):
        if text[at] in GAPS:
            at += 1
        else:
            word = word_at(text, at)
            found.append(word)
            at += len(word)
    return found


def word_at(text, at):
    first = text[at]
    if first in LETTERS:
        return checked_letters(run_of(text, at, LETTERS))
    if first in FIGURES:
        return checked_figures(run_of(text, at, FIGURES))
    if text[at:at + 2] in LONG_MARKS:
        return text[at:at + 2]
    if first in SHORT_MARKS:
        return first
    raise BadText(f"no word begins with {first!r}")


def run_of(text, at, signs):
    end = at
    while end < len(text) and text[end] in signs:
        end += 1
    return text[at:end]


def checked_letters(word):
    if len(word) > MOST_LETTERS:
        raise BadText("a word of letters is too long")
    return word


def checked_figures(word):
    if len(word) > MOST_FIGURES:
        raise BadText("a number is too long")
    if word[0] == "0" and word != "0":
        raise BadText("a number has a 0 ahead")
    return word
