"""The calls that look at the object and leave it as it is.

A refusal is the list of its number alone.
"""

from claimtables.broken import breakers_of
from claimtables.conditions import columns_in, holds, is_condition
from claimtables.shapes import has_columns
from claimtables.tables import Table, named_rows
from claimtables.trees import bytes_of, read_one, text_of, written


def is_place(number, count):
    """Whether one of so many things, numbered from 0, has this number."""
    return number >= 0 and number < count


def text_answer(tree):
    """The bytes of a tree, written."""
    # No claim of 700 bytes and no table of 6 columns and 40 rows comes near the 12000 bytes that would be refused.
    return bytes_of(written(tree))


def check_answer(store):
    """How many claims there are, and how many breakers each has."""
    return [len(store.claims)] + [len(breakers_of(claim, store.tables)) for claim in store.claims]


def breakers_answer(store, claim):
    """How many breakers a claim has; for each how many rows, and they."""
    breakers = breakers_of(claim, store.tables)
    numbers = [len(breakers)]
    for rows in breakers:
        numbers.append(len(rows))
        numbers.extend(rows)
    return numbers


def marks_answer(store, claim):
    """How many rows are in a claim's breakers; for each its number, and in how many it is."""
    counts = {}
    for rows in breakers_of(claim, store.tables):
        for row in rows:
            counts[row] = counts.get(row, 0) + 1
    numbers = [len(counts)]
    for row in sorted(counts.keys()):
        numbers.append(row)
        numbers.append(counts[row])
    return numbers


def are_chosen(numbers, count):
    """Whether these are numbers of so many rows, each greater than the one before."""
    if not all([is_place(number, count) for number in numbers]):
        return False
    return all([before < number for before, number in zip(numbers, numbers[1:])])


def alone_answer(store, claim, numbers):
    """How many breakers a claim has with these rows of its table alone."""
    table = store.tables[claim[1]]
    if not are_chosen(numbers, len(table.rows)):
        return [-4]
    # A table that refers to itself is to be found with these rows alone, too, so it is put in its own place.
    tables = dict(store.tables)
    tables[claim[1]] = Table(table.columns, tuple([table.rows[number] for number in numbers]))
    return [len(breakers_of(claim, tables))]


def shown_answer(store, name):
    """The table of this name, written."""
    word = text_of(name)
    if word not in store.tables:
        return [-3]
    table = store.tables[word]
    return text_answer(("table", word, table.columns) + table.rows)


def condition_answer(store, numbers, name, text):
    """1 if the text's condition holds for the row, or for the two rows, of these numbers."""
    i = numbers[0]
    j = numbers[1]
    word = text_of(name)
    if word not in store.tables:
        return [-3]
    tree = read_one(text)
    if tree is None:
        return [-1]
    places = ("col",) if j < 0 else ("one", "two")
    if not is_condition(tree, places):
        return [-2]
    if not has_columns(store.tables, word, columns_in(tree, places)):
        return [-5]
    rows = named_rows(store.tables[word])
    if not is_place(i, len(rows)) or (j != -1 and not is_place(j, len(rows))):
        return [-4]
    asked = {"col": rows[i]} if j == -1 else {"one": rows[i], "two": rows[j]}
    return [1 if holds(tree, asked) else 0]


def size_answer(store):
    """How many tables, how many claims, how many rows in all."""
    return [len(store.tables), len(store.claims), sum([len(table.rows) for table in store.tables.values()])]
