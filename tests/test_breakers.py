"""Promise 5: check and breakers, for each claim, with expressions and conditions as the document tells them."""

import unittest

from lines import breakers, broken, check, claim, last, rows, run, table

CELLS = "(table t ((a (up 100) maybe) (b (up 100) maybe) (w (of x y) maybe)) (1 2 x) (2 1 y) (() 2 x) (2 () ()) (2 2 y))"
EMPTY = "(table t ((a (up 100) maybe) (b (up 100) maybe) (w (of x y) maybe)))"


def holding(condition):
    """The rows of CELLS for which the condition holds."""
    found = broken([CELLS], "(each t (not " + condition + "))")
    return [k for each in found for k in each]


class Conditions(unittest.TestCase):
    def test_less(self):
        self.assertEqual(holding("(less (col a) (col b))"), [0])
        self.assertEqual(holding("(less (col b) (col a))"), [1])
        self.assertEqual(holding("(less (col a) 2)"), [0])
        self.assertEqual(holding("(less 1 (col a))"), [1, 3, 4])
        self.assertEqual(holding("(less (col w) (word y))"), [])
        self.assertEqual(holding("(less 0 (word y))"), [])
        self.assertEqual(holding("(less (word x) 5)"), [])

    def test_same(self):
        self.assertEqual(holding("(same (col a) (col b))"), [4])
        self.assertEqual(holding("(same (col w) (word x))"), [0, 2])
        self.assertEqual(holding("(same (col w) (col w))"), [0, 1, 2, 4])
        self.assertEqual(holding("(same (col w) (col a))"), [])
        self.assertEqual(holding("(same (col a) 2)"), [1, 3, 4])
        self.assertEqual(holding("(same (sub 0 1) (sub 0 1))"), [])
        self.assertEqual(holding("(same (word z) (word z))"), [0, 1, 2, 3, 4])
        self.assertEqual(holding("(same (word z) (word Z))"), [])

    def test_gone(self):
        self.assertEqual(holding("(gone (col a))"), [2])
        self.assertEqual(holding("(gone (col w))"), [3])
        self.assertEqual(holding("(gone 0)"), [])
        self.assertEqual(holding("(gone (word x))"), [])
        self.assertEqual(holding("(gone (add (col a) (col b)))"), [2, 3])
        self.assertEqual(holding("(gone (sub (col a) (col b)))"), [0, 2, 3])
        self.assertEqual(holding("(gone (add (word x) 1))"), [0, 1, 2, 3, 4])
        self.assertEqual(holding("(gone (add 1 (col w)))"), [0, 1, 2, 3, 4])
        self.assertEqual(holding("(gone (sub 1 (word x)))"), [0, 1, 2, 3, 4])
        self.assertEqual(holding("(gone (sub (col w) 0))"), [0, 1, 2, 3, 4])
        self.assertEqual(holding("(gone (add (sub 1 2) 5))"), [0, 1, 2, 3, 4])
        self.assertEqual(holding("(gone (sub 2 2))"), [])

    def test_sums_and_differences(self):
        self.assertEqual(holding("(same (add (col a) (col b)) 3)"), [0, 1])
        self.assertEqual(holding("(same (sub (col a) (col b)) 0)"), [4])
        self.assertEqual(holding("(same (sub (col a) (col b)) 1)"), [1])
        self.assertEqual(holding("(same (sub 10 (col a)) 8)"), [1, 3, 4])
        self.assertEqual(holding("(less 1000000 (add 1000000 (col a)))"), [0, 1, 3, 4])
        self.assertEqual(holding("(same (sub (add 1000000 1000000) 1000000) 1000000)"), [0, 1, 2, 3, 4])

    def test_and_or_not(self):
        everything = [0, 1, 2, 3, 4]
        self.assertEqual(holding("(and)"), everything)
        self.assertEqual(holding("(or)"), [])
        self.assertEqual(holding("(not (and))"), [])
        self.assertEqual(holding("(not (or))"), everything)
        self.assertEqual(holding("(and (same (col a) 2) (same (col w) (word y)))"), [1, 4])
        self.assertEqual(holding("(or (same (col a) 1) (gone (col w)))"), [0, 3])
        self.assertEqual(holding("(and (same (col a) 2) (or) (and))"), [])
        self.assertEqual(holding("(or (or) (gone (col b)) (or))"), [3])
        self.assertEqual(holding("(not (less (col a) 2))"), [1, 2, 3, 4])
        self.assertEqual(holding("(and (gone (col a)))"), [2])

    def test_words_called_like_the_documents_own(self):
        text = "(table each ((col (of col word and) maybe) (less (up 5))) (col 1) (and 2) (() 3))"
        self.assertEqual(broken([text], "(each each (same (col col) (word col)))"), [[1], [2]])
        self.assertEqual(broken([text], "(each each (less (col less) 3))"), [[2]])
        self.assertEqual(broken([text], "(pairs each (same (one col) (word and)))"), [[0, 1], [0, 2]])


class Claims(unittest.TestCase):
    def test_each(self):
        self.assertEqual(broken([CELLS], "(each t (less (col a) 2))"), [[1], [2], [3], [4]])
        self.assertEqual(broken([CELLS], "(each t (same (col a) 2))"), [[0], [2]])
        self.assertEqual(broken([CELLS], "(each t (and))"), [])
        self.assertEqual(broken([EMPTY], "(each t (or))"), [])

    def test_any(self):
        self.assertEqual(broken([CELLS], "(any t (gone (col a)))"), [])
        self.assertEqual(broken([CELLS], "(any t (same (col w) (word x)))"), [])
        self.assertEqual(broken([CELLS], "(any t (less 50 (col a)))"), [[]])
        self.assertEqual(broken([CELLS], "(any t (or))"), [[]])
        self.assertEqual(broken([EMPTY], "(any t (and))"), [[]])
        self.assertEqual(last(table(CELLS), claim("(any t (or))"), breakers(0)), [1, 0])

    def test_pairs(self):
        self.assertEqual(broken([CELLS], "(pairs t (not (less (one a) (two a))))"), [[0, 1], [0, 3], [0, 4]])
        self.assertEqual(broken([CELLS], "(pairs t (not (less (two b) (one b))))"), [[0, 1]])
        self.assertEqual(broken([CELLS], "(pairs t (same (one w) (two w)))"),
                         [[0, 1], [0, 3], [0, 4], [1, 2], [1, 3], [2, 3], [2, 4], [3, 4]])
        self.assertEqual(broken([CELLS], "(pairs t (and))"), [])
        self.assertEqual(len(broken([CELLS], "(pairs t (or))")), 10)
        self.assertEqual(broken(["(table t ((a (up 2))) (1))"], "(pairs t (or))"), [])
        self.assertEqual(broken([EMPTY], "(pairs t (or))"), [])

    def test_pairs_knows_which_row_stands_ahead(self):
        text = "(table t ((a (up 9))) (3) (1) (2))"
        self.assertEqual(broken([text], "(pairs t (less (one a) (two a)))"), [[0, 1], [0, 2]])
        self.assertEqual(broken([text], "(pairs t (less (two a) (one a)))"), [[1, 2]])

    def test_next(self):
        self.assertEqual(broken([CELLS], "(next t (or))"), [[0, 1], [1, 2], [2, 3], [3, 4]])
        self.assertEqual(broken([CELLS], "(next t (less (one a) (two a)))"), [[1, 2], [2, 3], [3, 4]])
        self.assertEqual(broken([CELLS], "(next t (not (gone (two a))))"), [[1, 2]])
        self.assertEqual(broken(["(table t ((a (up 2))) (1))"], "(next t (or))"), [])
        self.assertEqual(broken([EMPTY], "(next t (or))"), [])

    def test_key(self):
        text = "(table t ((a (up 9) maybe) (b (of x y) maybe)) (1 x) (() y) (1 x) (() ()) (1 y) (() y))"
        self.assertEqual(broken([text], "(key t (a))"), [[0, 2], [0, 4], [1, 3], [1, 5], [2, 4], [3, 5]])
        self.assertEqual(broken([text], "(key t (a b))"), [[0, 2], [1, 5]])
        self.assertEqual(broken([text], "(key t (b a b))"), [[0, 2], [1, 5]])
        self.assertEqual(broken(["(table t ((a (up 9))) (1) (2) (3))"], "(key t (a))"), [])

    def test_key_of_no_columns(self):
        self.assertEqual(broken(["(table t ((a (up 9))) (1) (2) (3))"], "(key t ())"), [[0, 1], [0, 2], [1, 2]])
        self.assertEqual(broken(["(table t ((a (up 9))) (1))"], "(key t ())"), [])
        self.assertEqual(broken(["(table t ((a (up 9))))"], "(key t ())"), [])

    def test_fixes(self):
        text = "(table t ((a (up 9) maybe) (b (of x y) maybe) (c (up 9))) (1 x 0) (1 y 0) (() x 0) (() () 1) (1 x 1))"
        self.assertEqual(broken([text], "(fixes t (a) (b))"), [[0, 1], [1, 4], [2, 3]])
        self.assertEqual(broken([text], "(fixes t (a) (b c))"), [[0, 1], [0, 4], [1, 4], [2, 3]])
        self.assertEqual(broken([text], "(fixes t (a b) (c))"), [[0, 4]])
        self.assertEqual(broken([text], "(fixes t (a b c) (a))"), [])
        self.assertEqual(broken([text], "(fixes t (a) (a))"), [])

    def test_fixes_with_no_columns(self):
        text = "(table t ((a (up 9) maybe) (b (up 9))) (1 5) (1 5) (() 5))"
        self.assertEqual(broken([text], "(fixes t () (a))"), [[0, 2], [1, 2]])
        self.assertEqual(broken([text], "(fixes t () (b))"), [])
        self.assertEqual(broken([text], "(fixes t (b) ())"), [])
        self.assertEqual(broken([text], "(fixes t () ())"), [])

    def test_refers_into_another_table(self):
        one = "(table t ((a (up 9) maybe) (b (of x y) maybe)) (1 x) (2 y) (1 y) (() y) (3 ()) (() ()) (2 x))"
        two = "(table u ((c (of x y z) maybe) (d (up 50) maybe)) (x 1) (y 2) (() 3) (y ()) (() ()))"
        self.assertEqual(broken([one, two], "(refers t (a b) u (d c))"), [[2], [6]])
        self.assertEqual(broken([one, two], "(refers t (a) u (d))"), [])
        self.assertEqual(broken([one, two], "(refers t (b) u (c))"), [])
        self.assertEqual(broken([one, two], "(refers t (a) u (c))"), [[0], [1], [2], [4], [6]])
        self.assertEqual(broken([one, two], "(refers u (d) t (a))"), [])
        self.assertEqual(broken([one, two], "(refers u (c d) t (b a))"), [])
        self.assertEqual(broken([one, two], "(refers t (a a) u (d d))"), [])

    def test_refers_into_itself(self):
        text = "(table t ((a (up 9)) (b (up 9) maybe)) (1 ()) (2 1) (3 3) (4 5))"
        self.assertEqual(broken([text], "(refers t (b) t (a))"), [[3]])
        self.assertEqual(broken([text], "(refers t (a) t (b))"), [[1], [3]])
        self.assertEqual(broken([text], "(refers t (a) t (a))"), [])

    def test_refers_into_and_out_of_no_rows(self):
        one = "(table t ((a (up 9) maybe)) (1) (()))"
        none = "(table u ((a (up 9) maybe)))"
        self.assertEqual(broken([one, none], "(refers t (a) u (a))"), [[0]])
        self.assertEqual(broken([one, none], "(refers u (a) t (a))"), [])

    def test_groups_of_counts(self):
        text = "(table t ((a (up 9) maybe) (b (of x y))) (2 x) (1 x) (2 y) (() x) (2 x) (() y))"
        self.assertEqual(broken([text], "(groups t (a) (count) 2 2)"), [[0, 2, 4], [1]])
        self.assertEqual(broken([text], "(groups t (a) (count) 1 3)"), [])
        self.assertEqual(broken([text], "(groups t (a) (count) 0 2)"), [[0, 2, 4]])
        self.assertEqual(broken([text], "(groups t (a) (count) 2 9)"), [[1]])
        self.assertEqual(broken([text], "(groups t (a b) (count) 2 2)"), [[1], [2], [3], [5]])
        self.assertEqual(broken([text], "(groups t (a) (count) 3 1)"), [[0, 2, 4], [1], [3, 5]])

    def test_groups_of_sums(self):
        text = "(table t ((a (of x y) maybe) (b (up 90) maybe)) (x 5) (y ()) (x 6) (() 7) (y 4) (() ()) (x ()))"
        self.assertEqual(broken([text], "(groups t (a) (sum b) 7 11)"), [[1, 4]])
        self.assertEqual(broken([text], "(groups t (a) (sum b) 4 10)"), [[0, 2, 6]])
        self.assertEqual(broken([text], "(groups t (a) (sum b) 8 10)"), [[0, 2, 6], [1, 4], [3, 5]])
        self.assertEqual(broken([text], "(groups t (a) (sum b) 4 11)"), [])
        self.assertEqual(broken([text], "(groups t (b) (sum b) 1 90)"), [[1, 5, 6]])

    def test_groups_of_no_columns(self):
        text = "(table t ((a (up 9) maybe)) (1) (()) (2))"
        self.assertEqual(broken([text], "(groups t () (count) 3 3)"), [])
        self.assertEqual(broken([text], "(groups t () (count) 4 9)"), [[0, 1, 2]])
        self.assertEqual(broken([text], "(groups t () (sum a) 3 3)"), [])
        self.assertEqual(broken([text], "(groups t () (sum a) 0 2)"), [[0, 1, 2]])
        self.assertEqual(broken([EMPTY], "(groups t () (count) 1 9)"), [])
        self.assertEqual(broken([EMPTY], "(groups t () (sum a) 1 9)"), [])

    def test_a_sum_above_the_greatest_number(self):
        text = "(table t ((a (up 1000000)))" + " (999999)" * 40 + ")"
        self.assertEqual(broken([text], "(groups t () (sum a) 0 1000000)"), [list(range(40))])

    def test_missing_cells_in_every_claim(self):
        text = "(table t ((a (up 9) maybe) (b (of x) maybe)) (() ()) (() ()))"
        for tree, found in (
            ("(each t (gone (col a)))", []), ("(each t (same (col a) (col a)))", [[0], [1]]),
            ("(any t (gone (col b)))", []), ("(any t (less (col a) 9))", [[]]),
            ("(pairs t (same (one a) (two a)))", [[0, 1]]), ("(pairs t (gone (two a)))", []),
            ("(next t (same (one b) (two b)))", [[0, 1]]), ("(next t (gone (add (one a) (two a))))", []),
            ("(key t (a))", [[0, 1]]), ("(key t (a b))", [[0, 1]]), ("(fixes t (a) (b))", []),
            ("(refers t (a) t (a))", []), ("(refers t (a b) t (a b))", []),
            ("(groups t (a) (count) 2 2)", []), ("(groups t (a b) (sum a) 1 1)", [[0, 1]]),
        ):
            self.assertEqual(broken([text], tree), found, tree)

    def test_40_rows_break_in_order(self):
        text = "(table t ((a (up 1)))" + " (0)" * 40 + ")"
        pairs = [[first, second] for first in range(40) for second in range(first + 1, 40)]
        self.assertEqual(broken([text], "(key t (a))"), pairs)
        self.assertEqual(broken([text], "(pairs t (or))"), pairs)
        self.assertEqual(broken([text], "(next t (or))"), [[k, k + 1] for k in range(39)])
        self.assertEqual(broken([text], "(each t (or))"), [[k] for k in range(40)])


class Check(unittest.TestCase):
    def test_no_claims(self):
        self.assertEqual(last(check()), [0])
        self.assertEqual(last(table(CELLS), check()), [0])

    def test_claims_on_several_tables_in_order(self):
        found = run(table(CELLS), table("(table u ((a (up 3))) (1) (1) (1))"), claim("(key u (a))"), claim("(any t (or))"),
                    claim("(each t (or))"), claim("(refers u (a) t (b))"), check(), rows("u", "(2) (0)"), check(),
                    *[breakers(k) for k in range(4)])
        self.assertEqual(found[6:], [[4, 3, 1, 5, 0], [2], [4, 0, 1, 5, 1], [0], [1, 0],
                                     [5, 1, 0, 1, 1, 1, 2, 1, 3, 1, 4], [1, 1, 1]])

    def test_rows_of_the_table_that_is_referred_to(self):
        found = run(table("(table t ((a (up 9))) (1) (2))"), table("(table u ((a (up 9))))"),
                    claim("(refers t (a) u (a))"), check(), rows("u", "(2)"), breakers(0), rows("u", "(2) (1)"), breakers(0))
        self.assertEqual(found[3:], [[1, 2], [1], [1, 1, 0], [2], [0]])


if __name__ == "__main__":
    unittest.main()
