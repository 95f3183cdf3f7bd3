"""The calls on one object, one behind another, and what is answered.

A refusal is the list of its number alone.
"""

from claimtables.broken import breakers_of
from claimtables.shapes import all_there, is_claim
from claimtables.tables import Table, are_rows, is_table, names_twice, rows_fit
from claimtables.trees import bytes_of, read, read_one, text_of, written

MOST_TABLES = 3
MOST_CLAIMS = 12
MOST_CLAIM_BYTES = 700

# For each call by its number: how many whole numbers it has, and how many lists behind them.
LAYOUT = (
    (0, 1),
    (0, 2),
    (0, 1),
    (1, 0),
    (1, 0),
    (0, 0),
    (1, 0),
    (1, 0),
    (1, 1),
    (1, 0),
    (0, 1),
    (2, 2),
    (0, 0),
)


class Store:
    """The tables by their names, in order, and the trees of the claims."""

    def __init__(self):
        self.tables = {}
        self.claims = []


class Call:
    """A call's number, its whole numbers and its lists."""

    def __init__(self, number, wholes, lists):
        self.number = number
        self.wholes = wholes
        self.lists = lists


def calls_in(numbers):
    """The calls that are laid one behind another in the list."""
    found = []
    at = 0
    while at < len(numbers):
        number = numbers[at]
        behind = at + 1 + LAYOUT[number][0]
        wholes = numbers[at + 1:behind]
        lists = []
        while len(lists) < LAYOUT[number][1]:
            end = behind + 1 + numbers[behind]
            lists.append(numbers[behind + 1:end])
            behind = end
        found.append(Call(number, wholes, lists))
        at = behind
    return found


def add_table(store, text):
    """Hold the text's table behind the others."""
    tree = read_one(text)
    if tree is None:
        return [-1]
    if not is_table(tree):
        return [-2]
    name = tree[1]
    columns = tree[2]
    rows = tree[3:]
    if names_twice(columns):
        return [-3]
    if not rows_fit(rows, columns):
        return [-4]
    if name in store.tables:
        return [-5]
    if len(store.tables) >= MOST_TABLES:
        return [-6]
    store.tables[name] = Table(columns, rows)
    return [len(columns), len(rows)]


def set_rows(store, name, text):
    """Let the table have just the rows of the text."""
    table = store.tables.get(text_of(name))
    if table is None:
        return [-3]
    trees = read(text)
    if trees is None:
        return [-1]
    if not are_rows(trees):
        return [-2]
    if not rows_fit(trees, table.columns):
        return [-4]
    table.rows = tuple(trees)
    return [len(trees)]


def add_claim(store, text):
    """Hold the text's claim behind the others."""
    tree = read_one(text)
    if tree is None or len(text) > MOST_CLAIM_BYTES:
        return [-1]
    if not is_claim(tree):
        return [-2]
    if not all_there(tree, store.tables):
        return [-3]
    if len(store.claims) >= MOST_CLAIMS:
        return [-6]
    store.claims.append(tree)
    return [len(store.claims) - 1]


def drop_claim(store, k):
    """Let claim k go."""
    store.claims.pop(k)
    return [len(store.claims)]


def check(store):
    """How many claims there are, and how many breakers each has."""
    return [len(store.claims)] + [len(breakers_of(claim, store.tables)) for claim in store.claims]


def laid_out(breakers):
    """How many breakers there are; for each how many rows, and they."""
    numbers = [len(breakers)]
    for rows in breakers:
        numbers.append(len(rows))
        numbers.extend(rows)
    return numbers


def answer_on_claim(store, number, k):
    """What a call on claim k answers."""
    if k < 0 or k >= len(store.claims):
        return [-3]
    if number == 3:
        return bytes_of(written(store.claims[k]))
    if number == 4:
        return drop_claim(store, k)
    return laid_out(breakers_of(store.claims[k], store.tables))


def answer_of(store, call):
    """What a call answers: nothing yet to the calls that are laid out but not built."""
    if call.number == 0:
        return add_table(store, call.lists[0])
    if call.number == 1:
        return set_rows(store, call.lists[0], call.lists[1])
    if call.number == 2:
        return add_claim(store, call.lists[0])
    if call.number == 5:
        return check(store)
    if call.number in (3, 4, 6):
        return answer_on_claim(store, call.number, call.wholes[0])
    return []


def answers(calls):
    """What the calls answer on a new object: for each how many numbers, and these."""
    store = Store()
    given = []
    for call in calls_in(calls):
        answer = answer_of(store, call)
        given.append(len(answer))
        given.extend(answer)
    return given
