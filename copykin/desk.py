"""A desk: a table and tellings, and the rows of text that it answers."""

from copykin.answers import answer
from copykin.errors import NoPlace
from copykin.rows import row_of
from copykin.tables import need_place, with_copy, without_copy

CHANGES = ("copy", "drop", "elder", "free")


def without_place(tellings, place):
    """New tellings, any of this place left out."""
    return [telling for telling in tellings if telling[0] != place]


class Desk:
    """A table, without copies at first, and tellings in the order in which they were told."""

    def __init__(self):
        self.copies = []
        self.tellings = []

    def say(self, row):
        """The answer to this row, or the refusal that it is met with."""
        found = row_of(row)
        if found[0] not in CHANGES:
            return answer(self.copies, self.tellings, found[0], found[1])
        self.change(found[0], found[1])
        return "ok"

    def change(self, word, parts):
        if word == "copy":
            self.copies = with_copy(self.copies, parts[0], parts[1])
        elif word == "drop":
            self.drop(parts[0])
        elif word == "elder":
            self.tell(parts[0], parts[1])
        else:
            self.free(parts[0])

    def drop(self, name):
        self.copies = without_copy(self.copies, name)
        if len(self.copies) == 0:
            # A table without copies has no places.
            self.tellings = []

    def tell(self, place, elder):
        need_place(self.copies, place)
        self.tellings = without_place(self.tellings, place) + [(place, elder)]

    def free(self, place):
        left = without_place(self.tellings, place)
        if len(left) == len(self.tellings):
            raise NoPlace("no telling has this place")
        self.tellings = left
