"""Promise 9: breakers break alone, no fewer of their rows do, and closed claims that hold do so with fewer rows."""

import itertools
import random
import unittest

from lines import broken, check, claim, run, table

HEAD = "(table t ((a (up 3) maybe) (b (of x y) maybe) (c (up 4)))"
OTHER = "(table u ((d (up 3) maybe) (e (of x y) maybe)) (1 x) (2 ()) (() y) (0 y))"


def a_row(source):
    return f"({source.choice(['0', '1', '2', '()'])} {source.choice(['x', 'y', '()'])} {source.randrange(4)})"


def an_expression(source, places, depth):
    choice = source.randrange(7 if depth else 5)
    if choice < 3:
        return f"({source.choice(places)} {source.choice('abc')})"
    if choice == 3:
        return str(source.randrange(4))
    if choice == 4:
        return f"(word {source.choice('xy')})"
    first = an_expression(source, places, depth - 1)
    return f"({source.choice(['add', 'sub'])} {first} {an_expression(source, places, depth - 1)})"


def a_condition(source, places, depth):
    choice = source.randrange(6 if depth else 3)
    if choice == 0:
        return f"(gone {an_expression(source, places, 2)})"
    if choice in (1, 2):
        first = an_expression(source, places, 2)
        return f"({('less', 'same')[choice - 1]} {first} {an_expression(source, places, 2)})"
    if choice == 3:
        return f"(not {a_condition(source, places, depth - 1)})"
    parts = [a_condition(source, places, depth - 1) for k in range(source.randrange(4))]
    return "(" + " ".join([("and", "or")[choice - 4]] + parts) + ")"


def some_columns(source):
    return "(" + " ".join(source.sample("abc", source.randrange(4))) + ")"


def a_claim(source):
    """A claim, whether it is closed, and whether it is a groups."""
    choice = source.randrange(9)
    if choice < 2:
        return f"({('each', 'any')[choice]} t {a_condition(source, ['col'], 2)})", choice == 0, False
    if choice < 4:
        return f"({('pairs', 'next')[choice - 2]} t {a_condition(source, ['one', 'two'], 2)})", choice == 2, False
    if choice == 4:
        return f"(key t {some_columns(source)})", True, False
    if choice == 5:
        return f"(fixes t {some_columns(source)} {some_columns(source)})", True, False
    if choice == 6:
        columns = source.choice(["(a) u (d)", "(a b) u (d e)", "(b) u (e)", "(b a) u (e d)", "(c) u (d)"])
        return f"(refers t {columns})", True, False
    if choice == 7:
        return f"(refers t {source.choice(['(a) t (c)', '(c) t (a)', '(a b) t (c b)'])})", False, False
    measure = source.choice(["(count)", "(sum a)", "(sum c)"])
    return f"(groups t {some_columns(source)} {measure} {source.randrange(3)} {source.randrange(6)})", False, True


def with_rows(lines):
    return HEAD + " " + " ".join(lines) + ")"


class PromiseNine(unittest.TestCase):
    def looked_at(self, source):
        lines = [a_row(source) for k in range(source.randrange(6))]
        text, closed, groups = a_claim(source)

        def alone(chosen):
            return len(broken([with_rows([lines[k] for k in chosen]), OTHER], text))

        everything = broken([with_rows(lines), OTHER], text)
        self.assertEqual(run(table(with_rows(lines)), table(OTHER), claim(text), check())[-1], [1, len(everything)])
        self.assertEqual(everything, sorted(everything, key=lambda each: each[:1] if groups else each))
        for breaker in everything:
            self.assertEqual(breaker, sorted(set(breaker)))
            self.assertGreater(alone(breaker), 0, (text, lines))
            for size in range(0 if groups else len(breaker)):
                for fewer in itertools.combinations(breaker, size):
                    self.assertEqual(alone(fewer), 0, (text, lines))
        if closed and not everything:
            for size in range(len(lines)):
                for fewer in itertools.combinations(range(len(lines)), size):
                    self.assertEqual(alone(fewer), 0, (text, lines))
        return text.split()[0], len(everything) > 0

    def test_many_claims_on_many_tables(self):
        source = random.Random(20)
        seen = {self.looked_at(source) for k in range(1500)}
        heads = ("each", "any", "pairs", "next", "key", "fixes", "refers", "groups")
        self.assertEqual(seen, {("(" + head, found) for head in heads for found in (True, False)})


if __name__ == "__main__":
    unittest.main()
