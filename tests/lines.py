"""The one helper of the tests: lays out calls as the document's interface tells, and parts the answers."""

from claimtables.claims import answers

PEOPLE = (
    "(table people ((id (up 100)) (dept (of it hr)) (boss (up 100) maybe) (pay (up 10000)))"
    " (1 it () 500) (2 it 1 300) (3 hr 1 400) (4 hr 9 300) (2 it 1 200))"
)


def row(text):
    """A text (or bytes) as a list of numbers, with how many they are before it."""
    numbers = list(text.encode("ascii") if isinstance(text, str) else text)
    return [len(numbers)] + numbers


def table(text):
    return [0] + row(text)


def rows(name, text):
    return [1] + row(name) + row(text)


def claim(text):
    return [2] + row(text)


def told(k):
    return [3, k]


def drop(k):
    return [4, k]


def check():
    return [5]


def breakers(k):
    return [6, k]


def marks(k):
    return [7, k]


def alone(k, numbers):
    return [8, k, len(numbers), *numbers]


def closed(k):
    return [9, k]


def shown(name):
    return [10] + row(name)


def test(i, j, name, text):
    return [11, i, j] + row(name) + row(text)


def size():
    return [12]


def line(*calls):
    """The calls as the one list that is handed in, no longer than the interface allows."""
    numbers = [number for call in calls for number in call]
    assert 1 <= len(calls) <= 60 and len(numbers) <= 16900, (len(calls), len(numbers))
    return numbers


def parted(numbers):
    """The answers, one list for each call."""
    found = []
    at = 0
    while at < len(numbers):
        end = at + 1 + numbers[at]
        found.append(numbers[at + 1:end])
        at = end
    return found


def run(*calls):
    """The answers to these calls on a new object."""
    return parted(answers(line(*calls)))


def last(*calls):
    """The answer to the last one of these calls."""
    return run(*calls)[-1]


def text_bytes(text):
    return list(text.encode("ascii"))


def sets(answer):
    """An answer of breakers as a list of lists of rows."""
    found = []
    at = 1
    while at < len(answer):
        end = at + 1 + answer[at]
        found.append(answer[at + 1:end])
        at = end
    assert len(found) == answer[0] and at == len(answer)
    return found


def broken(tables, text):
    """The breakers of one claim on these tables, which must be held without a refusal."""
    found = run(*[table(each) for each in tables], claim(text), breakers(0))
    assert found[-2] == [0], (text, found)
    return sets(found[-1])
