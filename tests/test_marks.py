"""Promises 4 and 5: marks and closed, for each kind of claim, and where there is no claim k."""

import unittest

from lines import alone, breakers, check, claim, closed, drop, last, marks, rows, run, sets, table

CELLS = "(table t ((a (up 9) maybe) (b (up 9) maybe) (w (of x y) maybe)) (1 2 x) (2 1 y) (() 2 x) (2 () ()) (2 2 y))"
OTHER = "(table u ((c (up 9) maybe) (v (of x y))) (2 x) (() y))"
TABLES = [table(CELLS), table(OTHER)]
HUGE = 1000000000000000000

# For each kind of claim what marks answers, where it holds and where it does not.
MARKED = (
    ("(each t (and))", [0]),
    ("(each t (less (col a) 2))", [4, 1, 1, 2, 1, 3, 1, 4, 1]),
    ("(each t (not (gone (col w))))", [1, 3, 1]),
    ("(any t (gone (col a)))", [0]),
    ("(any t (or))", [0]),
    ("(pairs t (and))", [0]),
    ("(pairs t (or))", [5, 0, 4, 1, 4, 2, 4, 3, 4, 4, 4]),
    ("(pairs t (not (less (one a) (two a))))", [4, 0, 3, 1, 1, 3, 1, 4, 1]),
    ("(next t (and))", [0]),
    ("(next t (or))", [5, 0, 1, 1, 2, 2, 2, 3, 2, 4, 1]),
    ("(next t (not (gone (two a))))", [2, 1, 1, 2, 1]),
    ("(key t (a b))", [0]),
    ("(key t (a))", [3, 1, 2, 3, 2, 4, 2]),
    ("(key t ())", [5, 0, 4, 1, 4, 2, 4, 3, 4, 4, 4]),
    ("(fixes t (a b) (w))", [0]),
    ("(fixes t (a) (w))", [3, 1, 1, 3, 2, 4, 1]),
    ("(fixes t () (w))", [5, 0, 3, 1, 3, 2, 3, 3, 4, 4, 3]),
    ("(refers t (a) t (a))", [0]),
    ("(refers t (b) u (c))", [1, 1, 1]),
    ("(refers t (a w) u (c v))", [3, 0, 1, 1, 1, 4, 1]),
    ("(refers u (c) t (b))", [0]),
    ("(groups t (a) (count) 1 3)", [0]),
    ("(groups t (a) (count) 2 3)", [2, 0, 1, 2, 1]),
    ("(groups t (b) (sum a) 0 2)", [3, 0, 1, 2, 1, 4, 1]),
    ("(groups t () (count) 6 9)", [5, 0, 1, 1, 1, 2, 1, 3, 1, 4, 1]),
    ("(groups t (w) (count) 0 0)", [5, 0, 1, 1, 1, 2, 1, 3, 1, 4, 1]),
)

CLOSED = (
    ("(each t (and))", 1),
    ("(each t (less (col a) 2))", 1),
    ("(any t (and))", 0),
    ("(any t (or))", 0),
    ("(pairs t (less (one a) (two b)))", 1),
    ("(next t (and))", 0),
    ("(next t (less (one a) (two b)))", 0),
    ("(key t (a b))", 1),
    ("(key t ())", 1),
    ("(fixes t (a) (b))", 1),
    ("(fixes t () ())", 1),
    ("(refers t (a) u (c))", 1),
    ("(refers u (c) t (a))", 1),
    ("(refers t (a b) u (c c))", 1),
    ("(refers t (a) t (b))", 0),
    ("(refers t (a) t (a))", 0),
    ("(refers u (c) u (c))", 0),
    ("(groups t (a) (count) 0 40)", 0),
    ("(groups t () (sum a) 0 1)", 0),
)


def counted(found):
    """What marks is to answer where breakers answers these sets."""
    marked = sorted({k for each in found for k in each})
    return [len(marked)] + [number for k in marked for number in (k, sum(k in each for each in found))]


class Marks(unittest.TestCase):
    def test_every_kind_of_claim(self):
        for text, answer in MARKED:
            self.assertEqual(run(*TABLES, claim(text), marks(0))[2:], [[0], answer], text)

    def test_marks_and_breakers_agree(self):
        for text, answer in MARKED:
            found = run(*TABLES, claim(text), breakers(0), marks(0))
            self.assertEqual(found[4], counted(sets(found[3])), text)

    def test_an_any_that_does_not_hold_marks_no_row(self):
        found = run(*TABLES, claim("(any t (or))"), check(), breakers(0), marks(0), rows("t", ""), check(), marks(0))
        self.assertEqual(found[3:], [[1, 1], [1, 0], [0], [0], [1, 1], [0]])

    def test_rows_in_several_breakers(self):
        text = "(table t ((a (up 9))) (1) (2) (1) (1) (2) (3))"
        self.assertEqual(last(table(text), claim("(key t (a))"), marks(0)), [5, 0, 2, 1, 1, 2, 2, 3, 2, 4, 1])

    def test_40_rows(self):
        text = "(table t ((a (up 1)))" + " (0)" * 40 + ")"
        every = [40] + [number for k in range(40) for number in (k, 39)]
        self.assertEqual(last(table(text), claim("(key t (a))"), marks(0)), every)
        ends = [40, 0, 1] + [number for k in range(1, 39) for number in (k, 2)] + [39, 1]
        self.assertEqual(last(table(text), claim("(next t (or))"), marks(0)), ends)

    def test_the_rows_rise_where_groups_do_not_stand_in_their_order(self):
        text = "(table t ((a (up 9))) (1) (2) (1) (2) (1))"
        found = run(table(text), claim("(groups t (a) (count) 0 1)"), breakers(0), marks(0))
        self.assertEqual(found[2:], [[2, 3, 0, 2, 4, 2, 1, 3], [5, 0, 1, 1, 1, 2, 1, 3, 1, 4, 1]])

    def test_a_table_without_rows(self):
        for text, answer in MARKED:
            self.assertEqual(last(*TABLES, rows("t", ""), rows("u", ""), claim(text), marks(0)), [0], text)

    def test_the_rows_of_now_are_marked(self):
        found = run(table("(table t ((a (up 9))) (1) (1))"), claim("(key t (a))"), marks(0), rows("t", "(2) (3) (3) (3)"),
                    marks(0))
        self.assertEqual(found[2], [2, 0, 1, 1, 1])
        self.assertEqual(found[4], [3, 1, 2, 2, 2, 3, 2])

    def test_each_claim_has_its_own(self):
        found = run(*TABLES, claim("(key t (a))"), claim("(each t (gone (col a)))"), marks(0), marks(1), drop(0), marks(0),
                    marks(1))
        self.assertEqual(found[4:], [[3, 1, 2, 3, 2, 4, 2], [4, 0, 1, 1, 1, 3, 1, 4, 1], [1], [4, 0, 1, 1, 1, 3, 1, 4, 1],
                                     [-3]])


class Closed(unittest.TestCase):
    def test_every_kind_of_claim(self):
        for text, answer in CLOSED:
            self.assertEqual(run(*TABLES, claim(text), closed(0))[2:], [[0], [answer]], text)

    def test_it_is_the_same_whether_the_claim_holds_or_not(self):
        for text, answer in CLOSED:
            self.assertEqual(last(*TABLES, rows("t", ""), rows("u", ""), claim(text), closed(0)), [answer], text)

    def test_columns_called_like_tables(self):
        pair = [table("(table t ((t (up 9)) (u (up 9))))"), table("(table u ((t (up 9)) (u (up 9))))")]
        for text, answer in (("(refers t (u) u (u))", 1), ("(refers t (u) t (u))", 0), ("(refers u (u) t (u))", 1),
                             ("(refers t (t) u (t))", 1), ("(refers u (t) u (t))", 0)):
            self.assertEqual(last(*pair, claim(text), closed(0)), [answer], text)

    def test_tables_called_like_claims(self):
        for name in ("each", "any", "pairs", "next", "key", "fixes", "refers", "groups"):
            for text, answer in ((f"(any {name} (and))", 0), (f"(each {name} (and))", 1), (f"(next {name} (and))", 0)):
                self.assertEqual(last(table(f"(table {name} ((a (up 9))))"), claim(text), closed(0)), [answer], text)

    def test_each_claim_has_its_own(self):
        found = run(*TABLES, *[claim(text) for text, answer in CLOSED[:12]], *[closed(k) for k in range(12)])
        self.assertEqual(found[14:], [[answer] for text, answer in CLOSED[:12]])


class NoClaim(unittest.TestCase):
    def test_no_claim_k(self):
        for call in (marks, closed, lambda k: alone(k, []), lambda k: alone(k, [0])):
            for k in (-HUGE, -2, -1, 2, 3, 12, HUGE):
                self.assertEqual(last(*TABLES, claim("(key t (a))"), claim("(key t (b))"), call(k)), [-3])
            for k in (-1, 0, 1):
                self.assertEqual(last(call(k)), [-3])
                self.assertEqual(last(*TABLES, call(k)), [-3])
                self.assertEqual(last(*TABLES, claim("(key t (a))"), drop(0), call(k)), [-3])


if __name__ == "__main__":
    unittest.main()
