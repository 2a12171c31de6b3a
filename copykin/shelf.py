"""A shelf: copies that are put one by one, and their tree."""

from copykin.clashes import refuse_clash
from copykin.errors import NoName, NoReading
from copykin.tables import are_readings, is_name, table_list, with_copy, without_copy
from copykin.trees import tree


class Shelf:
    """Copies that have a tree, none at first."""

    def __init__(self):
        self.copies = []

    def put(self, name, readings):
        """Puts a copy to the others, or NoName, NoReading, Twice, NoTable, Clash."""
        if not is_name(name):
            raise NoName("this is no name")
        if not are_readings(readings):
            raise NoReading("these are no readings")
        behind = with_copy(self.copies, name, readings)
        refuse_clash(behind)
        self.copies = behind

    def off(self, name):
        """Takes the copy of this name off, or NoName."""
        self.copies = without_copy(self.copies, name)

    def table(self):
        """A new table of the copies, sorted by their names."""
        return table_list(self.copies)

    def tree(self):
        """The tree of the copies, (nodes, branches)."""
        return tree(self.copies)
