"""Tables written as texts."""

from copykin.tables import table_list


def readings_text(readings):
    if len(readings) == 0:
        return "-"
    return "".join(["0" if reading == 0 else "1" for reading in readings])


def written(table):
    """The table's rows in the order of the names, parted by line ends."""
    rows = [name + " " + readings_text(readings) for name, readings in table_list(table)]
    return "\n".join(rows)
