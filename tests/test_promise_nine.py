"""Promise 9: breakers break alone, no fewer of their rows do, and closed claims that hold do so with fewer rows."""

import itertools
import random
import unittest

from lines import alone, breakers, broken, check, claim, closed, marks, run, sets, table, test

HEAD = "(table t ((a (up 3) maybe) (b (of x y) maybe) (c (up 4)))"
OTHER = "(table u ((d (up 3) maybe) (e (of x y) maybe)) (1 x) (2 ()) (() y) (0 y))"


def a_row(source):
    return f"({source.choice(['0', '1', '2', '()'])} {source.choice(['x', 'y', '()'])} {source.randrange(4)})"


def an_expression(source, places, depth):
    choice = source.randrange(7 if depth else 5)
    if choice < 3:
        return f"({source.choice(places)} {source.choice('abc')})"
    if choice == 3:
        return str(source.randrange(4))
    if choice == 4:
        return f"(word {source.choice('xy')})"
    first = an_expression(source, places, depth - 1)
    return f"({source.choice(['add', 'sub'])} {first} {an_expression(source, places, depth - 1)})"


def a_condition(source, places, depth):
    choice = source.randrange(6 if depth else 3)
    if choice == 0:
        return f"(gone {an_expression(source, places, 2)})"
    if choice in (1, 2):
        first = an_expression(source, places, 2)
        return f"({('less', 'same')[choice - 1]} {first} {an_expression(source, places, 2)})"
    if choice == 3:
        return f"(not {a_condition(source, places, depth - 1)})"
    parts = [a_condition(source, places, depth - 1) for k in range(source.randrange(4))]
    return "(" + " ".join([("and", "or")[choice - 4]] + parts) + ")"


def some_columns(source):
    return "(" + " ".join(source.sample("abc", source.randrange(4))) + ")"


def a_claim(source):
    """A claim, whether it is closed, and whether it is a groups."""
    choice = source.randrange(9)
    if choice < 2:
        return f"({('each', 'any')[choice]} t {a_condition(source, ['col'], 2)})", choice == 0, False
    if choice < 4:
        return f"({('pairs', 'next')[choice - 2]} t {a_condition(source, ['one', 'two'], 2)})", choice == 2, False
    if choice == 4:
        return f"(key t {some_columns(source)})", True, False
    if choice == 5:
        return f"(fixes t {some_columns(source)} {some_columns(source)})", True, False
    if choice == 6:
        columns = source.choice(["(a) u (d)", "(a b) u (d e)", "(b) u (e)", "(b a) u (e d)", "(c) u (d)"])
        return f"(refers t {columns})", True, False
    if choice == 7:
        return f"(refers t {source.choice(['(a) t (c)', '(c) t (a)', '(a b) t (c b)'])})", False, False
    measure = source.choice(["(count)", "(sum a)", "(sum c)"])
    return f"(groups t {some_columns(source)} {measure} {source.randrange(3)} {source.randrange(6)})", False, True


def with_rows(lines):
    return HEAD + " " + " ".join(lines) + ")"


def subsets(count):
    return [fewer for many in range(count + 1) for fewer in itertools.combinations(range(count), many)]


class PromiseNine(unittest.TestCase):
    def looked_at(self, source):
        lines = [a_row(source) for k in range(source.randrange(6))]
        text, is_closed, groups = a_claim(source)
        chosen = subsets(len(lines))
        found = run(table(with_rows(lines)), table(OTHER), claim(text), check(), breakers(0), marks(0), closed(0),
                    *[alone(0, each) for each in chosen], check())
        everything = sets(found[4])
        self.assertEqual(found[3], [1, len(everything)])
        self.assertEqual(found[-1], found[3])
        self.assertEqual(everything, sorted(everything, key=lambda each: each[:1] if groups else each))
        self.assertEqual(found[6], [1 if is_closed else 0], text)
        with_these = {each: answer[0] for each, answer in zip(chosen, found[7:-1], strict=True)}
        self.assertEqual(with_these[tuple(range(len(lines)))], len(everything))
        self.marked(everything, found[5])
        self.broken_alone(everything, with_these, groups, (text, lines))
        if is_closed and not everything:
            self.assertEqual(set(with_these.values()), {0}, (text, lines))
        for each in source.sample(chosen, min(3, len(chosen))):
            fewer = broken([with_rows([lines[k] for k in each]), OTHER], text)
            self.assertEqual(with_these[each], len(fewer), (text, lines, each))
        return text.split()[0], len(everything) > 0

    def broken_alone(self, everything, with_these, groups, told):
        for breaker in everything:
            self.assertEqual(breaker, sorted(set(breaker)))
            self.assertGreater(with_these[tuple(breaker)], 0, told)
            for many in range(0 if groups else len(breaker)):
                for fewer in itertools.combinations(breaker, many):
                    self.assertEqual(with_these[fewer], 0, told)

    def marked(self, everything, answer):
        pairs = list(zip(answer[1::2], answer[2::2], strict=True))
        self.assertEqual(len(pairs), answer[0])
        rows = sorted({k for breaker in everything for k in breaker})
        self.assertEqual(pairs, [(k, sum(k in breaker for breaker in everything)) for k in rows])

    def test_many_claims_on_many_tables(self):
        source = random.Random(20)
        seen = {self.looked_at(source) for k in range(1500)}
        heads = ("each", "any", "pairs", "next", "key", "fixes", "refers", "groups")
        self.assertEqual(seen, {("(" + head, found) for head in heads for found in (True, False)})

    def test_a_condition_is_for_rows_what_it_is_in_claims(self):
        source = random.Random(8)
        for k in range(300):
            lines = [a_row(source) for k in range(4)]
            text = a_condition(source, ["col"], 2)
            found = run(table(with_rows(lines)), *[test(i, -1, "t", text) for i in range(4)])[1:]
            each = [[i] for i in range(4) if found[i] == [0]]
            self.assertEqual(broken([with_rows(lines)], f"(each t {text})"), each, (text, lines))
            text = a_condition(source, ["one", "two"], 2)
            ahead = list(itertools.combinations(range(4), 2))
            found = run(table(with_rows(lines)), *[test(i, j, "t", text) for i, j in ahead])[1:]
            pairs = [list(ahead[i]) for i in range(6) if found[i] == [0]]
            self.assertEqual(broken([with_rows(lines)], f"(pairs t {text})"), pairs, (text, lines))


if __name__ == "__main__":
    unittest.main()
