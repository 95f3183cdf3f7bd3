"""Expressions and conditions: their shape, the columns that they name, and what they are for a row or for two.

`places` are the words that stand ahead of a column's name: ("col",) for one row, ("one", "two") for two.
`rows` is a dict of the rows that are asked about: by such a word a dict of the row's cells by their columns.
"""


def is_expression(tree, places):
    """Whether this is an expression by its shape."""
    if isinstance(tree, int):
        return True
    if not isinstance(tree, tuple) or len(tree) < 2:
        return False
    if tree[0] == "word" or tree[0] in places:
        return len(tree) == 2 and isinstance(tree[1], str)
    if tree[0] == "add" or tree[0] == "sub":
        return are_expressions(tree[1:], 2, places)
    return False


def are_expressions(trees, count, places):
    """Whether these are so many expressions."""
    return len(trees) == count and all([is_expression(tree, places) for tree in trees])


def is_condition(tree, places):
    """Whether this is a condition by its shape."""
    if not isinstance(tree, tuple) or len(tree) < 1:
        return False
    parts = tree[1:]
    if tree[0] == "less" or tree[0] == "same":
        return are_expressions(parts, 2, places)
    if tree[0] == "gone":
        return are_expressions(parts, 1, places)
    if tree[0] == "not" and len(parts) != 1:
        return False
    if tree[0] == "and" or tree[0] == "or" or tree[0] == "not":
        return all([is_condition(part, places) for part in parts])
    return False


def columns_in(tree, places):
    """The names of the columns that a condition or an expression names."""
    if not isinstance(tree, tuple):
        return []
    if tree[0] in places:
        return [tree[1]]
    names = []
    for part in tree[1:]:
        names.extend(columns_in(part, places))
    return names


def value_of(tree, rows):
    """The number or the word that an expression is, or None if it has no value."""
    if isinstance(tree, int):
        return tree
    if tree[0] == "word":
        return tree[1]
    if tree[0] in rows:
        cell = rows[tree[0]][tree[1]]
        return None if cell == () else cell
    first = value_of(tree[1], rows)
    second = value_of(tree[2], rows)
    if not isinstance(first, int) or not isinstance(second, int):
        return None
    if tree[0] == "add":
        return first + second
    return first - second if first >= second else None


def is_less(first, second):
    """Whether both are numbers, the first one less."""
    return isinstance(first, int) and isinstance(second, int) and first < second


def holds(tree, rows):
    """Whether a condition holds."""
    if tree[0] == "less":
        return is_less(value_of(tree[1], rows), value_of(tree[2], rows))
    if tree[0] == "same":
        first = value_of(tree[1], rows)
        return first is not None and first == value_of(tree[2], rows)
    if tree[0] == "gone":
        return value_of(tree[1], rows) is None
    if tree[0] == "not":
        return not holds(tree[1], rows)
    if tree[0] == "and":
        return all([holds(part, rows) for part in tree[1:]])
    return any([holds(part, rows) for part in tree[1:]])
