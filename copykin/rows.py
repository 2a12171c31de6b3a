"""Rows of text that a desk answers."""

from copykin.errors import NoRow
from copykin.reader import read_readings
from copykin.tables import is_name

FIGURES = "0123456789"
PARTS = {
    "copy": ("NAME", "READINGS"),
    "drop": ("NAME",),
    "elder": ("PLACE", "READING"),
    "free": ("PLACE",),
    "table": (),
    "clash": (),
    "tree": (),
    "first": (),
    "stands": (),
    "aside": (),
    "mixers": (),
    "mixed": ("NAME",),
}


def read_place(word):
    """The whole number that this word of one or two figures writes, or None."""
    if not 1 <= len(word) <= 2 or not all([sign in FIGURES for sign in word]):
        return None
    if len(word) == 2 and word[0] == "0":
        return None
    return int(word)


def read_reading(word):
    """The reading that this word writes, or None."""
    return int(word) if word in ("0", "1") else None


def read_part(part, word):
    """What this word writes, where this part of a row stands, or None."""
    if part == "NAME":
        return word if is_name(word) else None
    if part == "READINGS":
        return read_readings(word)
    if part == "READING":
        return read_reading(word)
    return read_place(word)


def row_of(row):
    """The word of this row and the list of what stands behind it, or NoRow."""
    if not isinstance(row, str):
        raise NoRow("this is no text")
    words = row.split(" ")
    if words[0] not in PARTS or len(words) != 1 + len(PARTS[words[0]]):
        raise NoRow("this is no row with so many words")
    found = [read_part(part, word) for part, word in zip(PARTS[words[0]], words[1:])]
    if any([thing is None for thing in found]):
        raise NoRow("what stands behind the first word of this row is not as it must be")
    return (words[0], found)
