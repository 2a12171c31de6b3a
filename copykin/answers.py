"""What a desk tells of its table and its tellings, as texts."""

from copykin.aside import set_aside
from copykin.clashes import clash
from copykin.mixing import mixed, mixers
from copykin.standing import first_read, stands
from copykin.trees import tree
from copykin.writer import readings_text, written


def or_dash(text):
    # Whatever is told is written with signs, so a text without any is the one of nothing told.
    return "-" if text == "" else text


def clash_text(found):
    """A clash, or None, as it is answered."""
    if found is None:
        return "-"
    return " ".join([str(found[0]), str(found[1])] + list(found[2]))


def branch_text(branch):
    places = ",".join([str(place) for place in branch[2]])
    return " ".join([readings_text(branch[0]), readings_text(branch[1]), places])


def first_text(known):
    """What is known of the first copy, a sign for each place."""
    return or_dash("".join(["?" if reading is None else str(reading) for reading in known]))


def mixed_text(found):
    """The ways in which a copy could be mixed."""
    return or_dash("; ".join([f"{place} {one} {other}" for place, one, other in found]))


def answer(copies, tellings, word, parts):
    """The answer to a row that only asks: its word, and what stands behind it."""
    if word == "table":
        return written(copies)
    if word == "clash":
        return clash_text(clash(copies))
    if word == "tree":
        return or_dash("; ".join([branch_text(branch) for branch in tree(copies)[1]]))
    if word == "first":
        return first_text(first_read(copies, tellings))
    if word == "stands":
        return " ".join([readings_text(node) for node in stands(copies, tellings)])
    if word == "aside":
        return or_dash(" ".join(set_aside(copies, tellings)))
    if word == "mixers":
        return or_dash(" ".join(mixers(copies)))
    return mixed_text(mixed(copies, parts[0]))
