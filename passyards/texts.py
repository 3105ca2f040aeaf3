"""Texts: how lines, standings and rows of moves are written, and reading them back."""

from passyards.errors import BadText
from passyards.lines import is_standing

LETTERS = {"track": "T", "yard": "Y"}
KINDS = {"T": "track", "Y": "yard"}
SIGNS = {"left": "<", "right": ">"}
SIDES = {"<": "left", ">": "right"}
DIGITS = "0123456789"
MOST_DIGITS = 10
EMPTY = "-"
BETWEEN = " | "


def line_text(line):
    """The text of the LINE."""
    return " ".join([f"{LETTERS[kind]}{size}" for kind, size in line])


def held_text(held):
    """The text of the trains of one place."""
    return " ".join([str(train) for train in held]) if held else EMPTY


def standing_text(standing):
    """The text of the STANDING."""
    return BETWEEN.join([held_text(held) for held in standing])


def row_text(row):
    """The text of the list of MOVEs."""
    return " ".join([f"{train}{SIGNS[side]}" for train, side in row]) if row else EMPTY


def is_number_text(text):
    """Whether the text is that of a number."""
    # Python's own tests for digits, and int, take signs, blanks and the digits of other scripts as well.
    if not 1 <= len(text) <= MOST_DIGITS or not all([mark in DIGITS for mark in text]):
        return False
    return text == "0" or text[0] != "0"


def number_in(text):
    """The number with that text; raises BadText(text)."""
    if not is_number_text(text):
        raise BadText(text)
    return int(text)


def line_in(text):
    """The LINE with that text; raises BadText(text)."""
    found = []
    for word in text.split(" "):
        letter, size = word[:1], word[1:]
        if letter not in KINDS or not is_number_text(size) or size == "0":
            raise BadText(text)
        found.append((KINDS[letter], int(size)))
    return tuple(found)


def held_in(text):
    """The trains of one place with that text, or None."""
    if text == EMPTY:
        return ()
    words = text.split(" ")
    return tuple([int(word) for word in words]) if all([is_number_text(word) for word in words]) else None


def standing_in(line, text):
    """The STANDING of the line with that text; raises BadText(text)."""
    found = tuple([held_in(part) for part in text.split(BETWEEN)])
    if not is_standing(line, found):
        raise BadText(text)
    return found


def row_in(text):
    """The list of MOVEs with that text; raises BadText(text)."""
    if text == EMPTY:
        return []
    found = []
    for word in text.split(" "):
        train, sign = word[:-1], word[-1:]
        if sign not in SIDES or not is_number_text(train):
            raise BadText(text)
        found.append((int(train), SIDES[sign]))
    return found
