"""Tables read from texts."""

from copykin.errors import NoText
from copykin.tables import are_readings, is_name, is_table

FIGURES = {"0": 0, "1": 1}


def read_readings(word):
    """The readings that this word writes, or None."""
    if word == "-":
        return ()
    if len(word) == 0 or not all([sign in FIGURES for sign in word]):
        return None
    readings = tuple([FIGURES[sign] for sign in word])
    return readings if are_readings(readings) else None


def read_row(row):
    """The copy that this row writes, or None of anything that is no row."""
    if not isinstance(row, str):
        return None
    words = row.split(" ")
    if len(words) != 2 or not is_name(words[0]):
        return None
    readings = read_readings(words[1])
    return None if readings is None else (words[0], readings)


def rows_of(text):
    # The text without signs has no row, but split would tell one without signs.
    return [] if text == "" else text.split("\n")


def read(text):
    """The table that this text writes, its copies in the order of the rows."""
    if not isinstance(text, str):
        raise NoText("this is no text", 0)
    table = []
    for place, row in enumerate(rows_of(text)):
        copy = read_row(row)
        if copy is None or not is_table(table + [copy]):
            raise NoText(f"the rows up to row {place} write no table", place)
        table.append(copy)
    return table
