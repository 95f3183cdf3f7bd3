"""Trees: read from bytes, and written as bytes.

A number is an int, a word is a str, a list is a tuple of trees.
"""

LETTERS = "abcdefghijklmnopqrstuvwxyzABCDEFGHIJKLMNOPQRSTUVWXYZ"
DIGITS = "0123456789"
MOST_BYTES = 4000
MOST_DEPTH = 40
MOST_NUMBER = 1000000
MOST_WORD = 20


def text_of(numbers):
    """The text that these bytes stand for."""
    known = {}
    for sign in LETTERS + DIGITS + "-.() \n":
        known[ord(sign)] = sign
    # No readable text and no name has another byte, so one sign that is in no word may stand for all of them.
    return "".join([known.get(number, "?") for number in numbers])


def bytes_of(text):
    """The bytes of a text."""
    return [ord(sign) for sign in text]


def is_numeral(part):
    """Whether this is a number in its one way."""
    if not part.isdigit() or len(part) > len(str(MOST_NUMBER)):
        return False
    if part[0] == "0":
        return len(part) == 1
    return int(part) <= MOST_NUMBER


def is_word_text(part):
    """Whether this is a word."""
    if len(part) > MOST_WORD or part[0] not in LETTERS:
        return False
    return all([sign in LETTERS + DIGITS + "-." for sign in part])


def parts_of(text):
    """The parentheses of a text and what stands between them and the blanks, in order."""
    # Of all that split() takes for a blank, text_of leaves the bytes 32 and 10 alone.
    return text.replace("(", " ( ").replace(")", " ) ").split()


def leaf(part):
    """The number or the word that is told, or None."""
    if is_numeral(part):
        return int(part)
    if is_word_text(part):
        return part
    return None


def read(numbers):
    """The list of the trees that these bytes tell, or None if they are not readable."""
    if len(numbers) > MOST_BYTES:
        return None
    levels = [[]]
    for part in parts_of(text_of(numbers)):
        if part == "(":
            if len(levels) > MOST_DEPTH:
                return None
            levels.append([])
        elif part == ")":
            if len(levels) == 1:
                return None
            ended = tuple(levels.pop())
            levels[-1].append(ended)
        else:
            tree = leaf(part)
            if tree is None:
                return None
            levels[-1].append(tree)
    return levels[0] if len(levels) == 1 else None


def read_one(numbers):
    """The one tree that these bytes tell, or None if they are not readable or not one tree."""
    trees = read(numbers)
    if trees is None or len(trees) != 1:
        return None
    return trees[0]


def written(tree):
    """The text of a tree."""
    if isinstance(tree, int):
        return str(tree)
    if isinstance(tree, str):
        return tree
    return "(" + " ".join([written(part) for part in tree]) + ")"
