"""The calls on one object, one behind another, and what is answered."""

from claimtables.changes import Store, add_claim, add_table, drop_claim, set_rows
from claimtables.looks import alone_answer, breakers_answer, check_answer, condition_answer, is_place, marks_answer
from claimtables.looks import shown_answer, size_answer, text_answer
from claimtables.shapes import is_closed

# The calls by their numbers.
TABLE = 0
ROWS = 1
CLAIM = 2
TOLD = 3
DROP = 4
CHECK = 5
BREAKERS = 6
MARKS = 7
ALONE = 8
CLOSED = 9
SHOWN = 10
TEST = 11
SIZE = 12

# For each call by its number: how many whole numbers it has, and how many lists behind them.
LAYOUT = (
    (0, 1),
    (0, 2),
    (0, 1),
    (1, 0),
    (1, 0),
    (0, 0),
    (1, 0),
    (1, 0),
    (1, 1),
    (1, 0),
    (0, 1),
    (2, 2),
    (0, 0),
)


class Call:
    """A call's number, its whole numbers and its lists."""

    def __init__(self, number, wholes, lists):
        self.number = number
        self.wholes = wholes
        self.lists = lists


def calls_in(numbers):
    """The calls that are laid one behind another in the list."""
    found = []
    at = 0
    while at < len(numbers):
        number = numbers[at]
        behind = at + 1 + LAYOUT[number][0]
        wholes = numbers[at + 1:behind]
        lists = []
        while len(lists) < LAYOUT[number][1]:
            end = behind + 1 + numbers[behind]
            lists.append(numbers[behind + 1:end])
            behind = end
        found.append(Call(number, wholes, lists))
        at = behind
    return found


def answer_on_claim(store, call):
    """What a call on claim k answers: told, drop, breakers, marks, alone or closed."""
    k = call.wholes[0]
    if not is_place(k, len(store.claims)):
        return [-3]
    claim = store.claims[k]
    if call.number == TOLD:
        return text_answer(claim)
    if call.number == DROP:
        return drop_claim(store, k)
    if call.number == BREAKERS:
        return breakers_answer(store, claim)
    if call.number == MARKS:
        return marks_answer(store, claim)
    if call.number == ALONE:
        return alone_answer(store, claim, call.lists[0])
    return [1 if is_closed(claim) else 0]


def answer_of(store, call):
    """What a call answers."""
    if call.number == TABLE:
        return add_table(store, call.lists[0])
    if call.number == ROWS:
        return set_rows(store, call.lists[0], call.lists[1])
    if call.number == CLAIM:
        return add_claim(store, call.lists[0])
    if call.number == CHECK:
        return check_answer(store)
    if call.number == SHOWN:
        return shown_answer(store, call.lists[0])
    if call.number == TEST:
        return condition_answer(store, call.wholes, call.lists[0], call.lists[1])
    if call.number == SIZE:
        return size_answer(store)
    return answer_on_claim(store, call)


def answers(calls):
    """What the calls answer on a new object: for each how many numbers, and these."""
    store = Store()
    given = []
    for call in calls_in(calls):
        answer = answer_of(store, call)
        given.append(len(answer))
        given.extend(answer)
    return given
