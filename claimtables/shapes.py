"""The shape of claims, and whether the tables and columns that they name are there."""

from claimtables.conditions import columns_in, is_condition
from claimtables.tables import column_kinds


def places_of(head):
    """The words that stand ahead of a column's name in the condition of such a claim."""
    if head == "pairs" or head == "next":
        return ("one", "two")
    return ("col",)


def has_condition(head):
    """Whether such a claim is told by a condition."""
    return head in ("each", "any", "pairs", "next")


def is_names(tree):
    """Whether this is a list of names, perhaps of none."""
    return isinstance(tree, tuple) and all([isinstance(name, str) for name in tree])


def is_refers(tree):
    """Whether (refers t ..) is a claim by its shape."""
    if len(tree) != 5 or not isinstance(tree[3], str):
        return False
    if not is_names(tree[2]) or not is_names(tree[4]):
        return False
    return len(tree[2]) > 0 and len(tree[2]) == len(tree[4])


def is_measure(tree):
    """Whether this is (count) or (sum d)."""
    if not isinstance(tree, tuple):
        return False
    return tree == ("count",) or (len(tree) == 2 and tree[0] == "sum" and isinstance(tree[1], str))


def is_groups(tree):
    """Whether (groups t ..) is a claim by its shape."""
    if len(tree) != 6 or not is_names(tree[2]) or not is_measure(tree[3]):
        return False
    return isinstance(tree[4], int) and isinstance(tree[5], int)


def is_claim(tree):
    """Whether this is a claim by its shape."""
    if not isinstance(tree, tuple) or len(tree) < 3 or not isinstance(tree[1], str):
        return False
    head = tree[0]
    if has_condition(head):
        return len(tree) == 3 and is_condition(tree[2], places_of(head))
    if head == "key":
        return len(tree) == 3 and is_names(tree[2])
    if head == "fixes":
        return len(tree) == 4 and is_names(tree[2]) and is_names(tree[3])
    if head == "refers":
        return is_refers(tree)
    return head == "groups" and is_groups(tree)


def is_closed(claim):
    """Whether a claim is closed."""
    if claim[0] == "refers":
        return claim[3] != claim[1]
    return claim[0] in ("each", "pairs", "key", "fixes")


def own_columns(claim):
    """The names of the columns of its own table that a claim names."""
    if has_condition(claim[0]):
        return columns_in(claim[2], places_of(claim[0]))
    if claim[0] == "fixes":
        return list(claim[2] + claim[3])
    return list(claim[2])


def has_columns(tables, name, columns):
    """Whether the table is there, with all these columns."""
    if name not in tables:
        return False
    kinds = column_kinds(tables[name])
    return all([column in kinds for column in columns])


def can_sum(tables, name, column):
    """Whether the table has this column, of a kind (up n)."""
    return has_columns(tables, name, [column]) and column_kinds(tables[name])[column][0] == "up"


def all_there(claim, tables):
    """Whether all that a claim names is there, and what it sums are numbers."""
    if not has_columns(tables, claim[1], own_columns(claim)):
        return False
    if claim[0] == "refers":
        return has_columns(tables, claim[3], claim[4])
    if claim[0] == "groups" and claim[3][0] == "sum":
        return can_sum(tables, claim[1], claim[3][1])
    return True
