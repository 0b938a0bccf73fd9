"""Tables of fractions, solved for a right side."""

from mainskeep.fractions import minus, over, times


def leading_row(rows, at):
    """The number of the first row from `at` on with another number than 0 at that place, or None."""
    for number in range(at, len(rows)):
        if rows[number][at] != (0, 1):
            return number
    return None


def made_one(row, at):
    """The row, divided so that it has 1 at the place."""
    return [over(part, row[at]) for part in row]


def made_nought(row, lead, at):
    """The row less so many times the lead, which has 1 at the place, that it has 0 there."""
    return [minus(part, times(row[at], other)) for part, other in zip(row, lead)]


def cleared(rows, at):
    """The rows, turned so that the row `at` has 1 at that place and each other one has 0 there."""
    lead = made_one(rows[at], at)
    return [lead if number == at else made_nought(row, lead, at) for number, row in enumerate(rows)]


def solved(table, right):
    """The only list that, multiplied with each list of the table, gives the right side; else None."""
    rows = [list(parts) + [end] for parts, end in zip(table, right)]
    for at in range(len(table)):
        number = leading_row(rows, at)
        # There are as many rows as places: where one place leads no row, no list gives the right side, or many do.
        if number is None:
            return None
        rows.insert(at, rows.pop(number))
        rows = cleared(rows, at)
    return [row[-1] for row in rows]
