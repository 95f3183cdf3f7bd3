"""The object, and the calls that change it: table, rows, claim and drop.

A refusal is the list of its number alone, and nothing is changed ahead of one.
"""

from claimtables.shapes import all_there, is_claim
from claimtables.tables import Table, are_rows, is_table, names_twice, rows_fit
from claimtables.trees import read, read_one, text_of

MOST_TABLES = 3
MOST_CLAIMS = 12
MOST_CLAIM_BYTES = 700


class Store:
    """The tables by their names, in order, and the trees of the claims."""

    def __init__(self):
        self.tables = {}
        self.claims = []


def add_table(store, text):
    """Hold the text's table behind the others."""
    tree = read_one(text)
    if tree is None:
        return [-1]
    if not is_table(tree):
        return [-2]
    name = tree[1]
    columns = tree[2]
    rows = tree[3:]
    if names_twice(columns):
        return [-3]
    if not rows_fit(rows, columns):
        return [-4]
    if name in store.tables:
        return [-5]
    if len(store.tables) >= MOST_TABLES:
        return [-6]
    store.tables[name] = Table(columns, rows)
    return [len(columns), len(rows)]


def set_rows(store, name, text):
    """Let the table have just the rows of the text."""
    table = store.tables.get(text_of(name))
    if table is None:
        return [-3]
    trees = read(text)
    if trees is None:
        return [-1]
    if not are_rows(trees):
        return [-2]
    if not rows_fit(trees, table.columns):
        return [-4]
    table.rows = tuple(trees)
    return [len(trees)]


def add_claim(store, text):
    """Hold the text's claim behind the others."""
    tree = read_one(text)
    if tree is None or len(text) > MOST_CLAIM_BYTES:
        return [-1]
    if not is_claim(tree):
        return [-2]
    if not all_there(tree, store.tables):
        return [-3]
    if len(store.claims) >= MOST_CLAIMS:
        return [-6]
    store.claims.append(tree)
    return [len(store.claims) - 1]


def drop_claim(store, k):
    """Let claim k, which is there, go."""
    store.claims.pop(k)
    return [len(store.claims)]
