"""Tables: their shape, and whether rows are as the columns want them.

A column is the tree (c k) or (c k maybe) that tells it; a row is the tuple of its cells, a missing one being ().
"""

MOST_COLUMNS = 6
MOST_KIND_WORDS = 10
MOST_ROWS = 40


class Table:
    """The columns of a table, and its rows in order."""

    def __init__(self, columns, rows):
        self.columns = columns
        self.rows = rows


def is_kind(tree):
    """Whether this is (up n) or (of w ..)."""
    if not isinstance(tree, tuple) or len(tree) < 2:
        return False
    if tree[0] == "up":
        return len(tree) == 2 and isinstance(tree[1], int) and tree[1] > 0
    if tree[0] != "of" or len(tree) - 1 > MOST_KIND_WORDS:
        return False
    return all([isinstance(word, str) for word in tree[1:]])


def is_column(tree):
    """Whether this is (c k) or (c k maybe)."""
    if not isinstance(tree, tuple) or len(tree) < 2 or not isinstance(tree[0], str):
        return False
    return is_kind(tree[1]) and (len(tree) == 2 or tree[2:] == ("maybe",))


def are_columns(tree):
    """Whether this is a list of as many columns as a table may have."""
    if not isinstance(tree, tuple) or len(tree) < 1 or len(tree) > MOST_COLUMNS:
        return False
    return all([is_column(column) for column in tree])


def is_row(tree):
    """Whether this is a list of numbers, words and ()."""
    if not isinstance(tree, tuple):
        return False
    return all([not isinstance(cell, tuple) or cell == () for cell in tree])


def are_rows(trees):
    """Whether these are rows by their shape, and not too many."""
    return len(trees) <= MOST_ROWS and all([is_row(tree) for tree in trees])


def is_table(tree):
    """Whether this is (table t (column ..) row ..) by its shape."""
    if not isinstance(tree, tuple) or len(tree) < 3:
        return False
    if tree[0] != "table" or not isinstance(tree[1], str):
        return False
    return are_columns(tree[2]) and are_rows(tree[3:])


def has_twice(names):
    """Whether two of these are the same."""
    return len(set(names)) != len(names)


def names_twice(columns):
    """Whether two columns have the same name, or two words of a kind are the same."""
    if has_twice([column[0] for column in columns]):
        return True
    # The sign "of" ahead of the words may be one of them, too.
    return any([has_twice(column[1][1:]) for column in columns])


def cell_fits(cell, column):
    """Whether the cell is as its column wants it."""
    if cell == ():
        return len(column) == 3
    kind = column[1]
    if kind[0] == "up":
        return isinstance(cell, int) and cell < kind[1]
    return cell in kind[1:]


def row_fits(row, columns):
    """Whether the row has just one cell for each column, as that wants it."""
    if len(row) != len(columns):
        return False
    return all([cell_fits(cell, column) for cell, column in zip(row, columns)])


def rows_fit(rows, columns):
    """Whether all rows are as the columns want them."""
    return all([row_fits(row, columns) for row in rows])


def column_kinds(table):
    """The kinds of a table's columns, by their names."""
    return dict([(column[0], column[1]) for column in table.columns])


def named_rows(table):
    """The rows in order, each as a dict of its cells by the names of their columns."""
    names = [column[0] for column in table.columns]
    return [dict(zip(names, row)) for row in table.rows]
