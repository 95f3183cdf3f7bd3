"""The breakers of claims: lists of the numbers of rows, each rising, in the order that the document tells.

A row is a dict of its cells by the names of their columns.
"""

from claimtables.conditions import holds
from claimtables.tables import named_rows


def cells_in(row, columns):
    """The row's cells in these columns, in their order."""
    return tuple([row[column] for column in columns])


def alike(first, second, columns):
    """Whether two rows are alike in these columns."""
    return cells_in(first, columns) == cells_in(second, columns)


def each_breakers(condition, rows):
    """Each row for which the condition doesn't hold."""
    return [[k] for k, row in enumerate(rows) if not holds(condition, {"col": row})]


def any_breakers(condition, rows):
    """The empty set, if the condition holds for no row."""
    if any([holds(condition, {"col": row}) for row in rows]):
        return []
    return [[]]


def refers_breakers(claim, rows, others):
    """Each row that misses no cell and has no row with the same cells among the others."""
    targets = [cells_in(other, claim[4]) for other in others]
    broken = []
    for k, row in enumerate(rows):
        cells = cells_in(row, claim[2])
        if () not in cells and cells not in targets:
            broken.append([k])
    return broken


def pairs_asked(head, count):
    """The two rows each that such a claim asks about, of so many rows."""
    if head == "next":
        return [[k, k + 1] for k in range(count - 1)]
    asked = []
    for first in range(count):
        asked.extend([[first, second] for second in range(first + 1, count)])
    return asked


def breaks(claim, first, second):
    """Whether it isn't so for these two rows, of which the first one stands ahead."""
    if claim[0] == "key":
        return alike(first, second, claim[2])
    if claim[0] == "fixes":
        return alike(first, second, claim[2]) and not alike(first, second, claim[3])
    return not holds(claim[2], {"one": first, "two": second})


def pair_breakers(claim, rows):
    """Each two rows for which it isn't so."""
    asked = pairs_asked(claim[0], len(rows))
    return [pair for pair in asked if breaks(claim, rows[pair[0]], rows[pair[1]])]


def groups_of(rows, columns):
    """The numbers of the rows that are alike in these columns, taken together, by the first one of each group."""
    groups = {}
    for k, row in enumerate(rows):
        groups.setdefault(cells_in(row, columns), []).append(k)
    return list(groups.values())


def measured(measure, rows):
    """How many these rows are, or the sum of their cells in a column, a missing one being 0."""
    if measure[0] == "count":
        return len(rows)
    return sum([row[measure[1]] for row in rows if row[measure[1]] != ()])


def groups_breakers(claim, rows):
    """Each group whose count or sum isn't within its bounds."""
    broken = []
    for group in groups_of(rows, claim[2]):
        amount = measured(claim[3], [rows[k] for k in group])
        if amount < claim[4] or amount > claim[5]:
            broken.append(group)
    return broken


def breakers_of(claim, tables):
    """All breakers of a claim whose tables and columns are there."""
    rows = named_rows(tables[claim[1]])
    if claim[0] == "each":
        return each_breakers(claim[2], rows)
    if claim[0] == "any":
        return any_breakers(claim[2], rows)
    if claim[0] == "refers":
        return refers_breakers(claim, rows, named_rows(tables[claim[3]]))
    if claim[0] == "groups":
        return groups_breakers(claim, rows)
    return pair_breakers(claim, rows)
