"""Promises 1 and 2: table and rows, their refusals, and the order of these."""

import unittest

from lines import PEOPLE, breakers, check, claim, last, rows, run, table

ONE = "(table t ((a (up 10))) (1))"


class TableShape(unittest.TestCase):
    def refused(self, number, *texts):
        for text in texts:
            self.assertEqual(last(table(text)), [number], text)

    def held(self, answer, *texts):
        for text in texts:
            self.assertEqual(last(table(text)), answer, text)

    def test_ordinary_tables(self):
        self.held([4, 5], PEOPLE)
        self.held([1, 0], "(table t ((a (up 1))))", "(table table ((table (of table))))")
        self.held([2, 3], "(table t ((a (up 5)) (b (of x y) maybe)) (4 x) (0 ()) (0 y))")

    def test_no_one_tree(self):
        self.refused(-1, ONE + " " + ONE, ONE + " 1", "1 2", "", "(table t ((a (up 10))) (1)", "(table t ((a (up 010))))")

    def test_no_table(self):
        self.refused(-2, "5", "table", "()", "(table)", "(table t)", "(tables t ((a (up 1))))", "(t ((a (up 1))))",
                     "(table 5 ((a (up 1))))", "(table (t) ((a (up 1))))", "(table t a)", "(table t 7)",
                     "((table) t ((a (up 1))))")

    def test_columns_1_to_6(self):
        columns = ["(c" + str(k) + " (up 9))" for k in range(7)]
        self.refused(-2, "(table t ())")
        self.held([1, 1], "(table t (" + columns[0] + ") (1))")
        self.held([6, 1], "(table t (" + " ".join(columns[:6]) + ") (1 2 3 4 5 6))")
        self.refused(-2, "(table t (" + " ".join(columns) + ") (1 2 3 4 5 6 7))")

    def test_no_column(self):
        for column in ("a", "1", "()", "(a)", "(1 (up 9))", "((a) (up 9))", "(a up)", "(a 9)", "(a (up 9) perhaps)",
                       "(a (up 9) 1)", "(a (up 9) (maybe))", "(a (up 9) maybe maybe)", "(a maybe (up 9))"):
            self.refused(-2, "(table t (" + column + "))")

    def test_no_kind(self):
        for kind in ("()", "(up)", "(up 0)", "(up x)", "(up ())", "(up 1 2)", "(of)", "(of 1)", "(of x 1)", "(of (x))",
                     "(of ())", "(down 1)", "(1 1)", "((up) 1)", "(x y)"):
            self.refused(-2, "(table t ((a " + kind + ")))")

    def test_kinds_of_numbers(self):
        self.held([1, 1], "(table t ((a (up 1))) (0))", "(table t ((a (up 1000000))) (999999))")
        self.refused(-4, "(table t ((a (up 1))) (1))")

    def test_10_words_and_11(self):
        words = ["w" + str(k) for k in range(11)]
        self.held([1, 1], "(table t ((a (of w0))) (w0))", "(table t ((a (of " + " ".join(words[:10]) + "))) (w9))")
        self.refused(-2, "(table t ((a (of " + " ".join(words) + "))) (w9))")

    def test_40_rows_and_41(self):
        self.held([1, 40], "(table t ((a (up 10)))" + " (1)" * 40 + ")")
        self.refused(-2, "(table t ((a (up 10)))" + " (1)" * 41 + ")")

    def test_no_row(self):
        for each in ("1", "x", "((1))", "(1 (2))", "((()))", "(1 (x))"):
            self.refused(-2, "(table t ((a (up 10) maybe)) " + each + ")", "(table t ((a (up 10))) (1) " + each + ")")

    def test_the_same_name_twice(self):
        self.refused(-3, "(table t ((a (up 9)) (a (up 9))))", "(table t ((a (up 9)) (b (up 9)) (a (of x))))",
                     "(table t ((a (of x x))))", "(table t ((a (of x y z x)) (b (up 1))))",
                     "(table t ((b (up 1)) (a (of x y y))))", "(table t ((a (of of of))))")

    def test_the_same_name_elsewhere(self):
        self.held([2, 0], "(table t ((a (of a b)) (b (of a b))))", "(table a ((a (of a)) (b (of a))))")
        self.held([1, 1], "(table t ((a (of of up maybe))) (of))", "(table t ((maybe (of maybe) maybe)) (maybe))")
        self.held([1, 2], "(table t ((up (up 9))) (7) (7))")

    def test_rows_that_do_not_fit(self):
        head = "(table t ((a (up 5)) (b (of x y)) (c (up 5) maybe) (d (of x y) maybe)) "
        self.held([4, 1], head + "(4 x 4 y))", head + "(0 y () ()))")
        self.refused(-4, head + "())", head + "(4 x 4))", head + "(4 x 4 y 4))", head + "(5 x 4 y))",
                     head + "(4 z 4 y))", head + "(x x 4 y))", head + "(4 4 4 y))", head + "(() x 4 y))",
                     head + "(4 () 4 y))", head + "(4 x 5 y))", head + "(4 x x y))", head + "(4 x 4 z))",
                     head + "(4 x 4 4))", head + "(4 x 4 y) (4 x 4))", head + "(4 of 4 y))", head + "(4 x 4 of))")

    def test_the_order_of_refusals_within_one_text(self):
        self.refused(-1, "(table t () 01)", "(tables) (tables)", "(table t ((a (up 0))) ")
        self.refused(-2, "(table t ((a (up 9)) (a (up 0))))", "(table t ((a (of x x))) 5)", "(table t ((a (up 9))) (x) 5)",
                     "(table t ((a (up 9)) (a (up 9)))" + " (1 1)" * 41 + ")", "(table t ((a (up 9)))" + " (x)" * 41 + ")")
        self.refused(-3, "(table t ((a (up 9)) (a (up 9))) (1))", "(table t ((a (of x x))) (y))")


class TablesHeld(unittest.TestCase):
    def test_a_name_that_a_table_has(self):
        self.assertEqual(run(table(ONE), table(ONE), table("(table T ((a (up 2))))")), [[1, 1], [-5], [1, 0]])

    def test_3_tables_and_a_fourth(self):
        four = [table("(table " + name + " ((a (up 9))) (1))") for name in ("t", "u", "v", "w")]
        self.assertEqual(run(*four), [[1, 1], [1, 1], [1, 1], [-6]])

    def test_the_order_of_refusals_among_tables(self):
        three = [table("(table " + name + " ((a (up 9))) (1))") for name in ("t", "u", "v")]
        for text, number in (("(table t ((a (up 9))) (1)", -1), ("(table w () (1))", -2), ("(table t ((a (up 0))))", -2),
                             ("(table u ((a (up 9)) (a (up 9))))", -3), ("(table w ((a (of x x))))", -3),
                             ("(table v ((a (up 9))) (9))", -4), ("(table w ((a (up 9))) (9))", -4),
                             ("(table v ((a (up 9))))", -5), ("(table w ((a (up 9))))", -6)):
            self.assertEqual(last(*three, table(text)), [number], text)

    def test_a_refused_table_is_not_held(self):
        for text in ("(table t ((a (up 9))) (9))", "(table t ((a (up 9)) (a (up 9))))", "(table t ((a (up 0))))"):
            self.assertEqual(run(table(text), claim("(each t (and))"), rows("t", "")), [run(table(text))[0], [-3], [-3]])


class Rows(unittest.TestCase):
    def test_the_rows_are_just_these(self):
        found = run(table("(table t ((a (up 10)) (b (of x y) maybe)) (1 x) (2 y) (3 ()))"),
                    claim("(each t (less (col a) 2))"), check(),
                    rows("t", "(5 x) (1 ()) (7 y) (0 x)"), breakers(0),
                    rows("t", " \n"), breakers(0), rows("t", "(2 x)"), breakers(0))
        self.assertEqual(found, [[2, 3], [0], [1, 2], [4], [2, 1, 0, 1, 2], [0], [0], [1], [1, 1, 0]])

    def test_other_tables_keep_theirs(self):
        found = run(table(ONE), table("(table u ((a (up 10))) (1) (2))"), claim("(each t (or))"), claim("(each u (or))"),
                    check(), rows("t", "(1) (2) (3)"), check(), rows("u", ""), check())
        self.assertEqual(found[4:], [[2, 1, 2], [3], [2, 3, 2], [0], [2, 3, 0]])

    def test_no_such_table(self):
        for name in ("", "u", "T", "tt", " t", "t ", "(t)", "t\n", "a", "1", [0], [116, 0], [116, 255], [63], [116] * 6000):
            self.assertEqual(last(table(ONE), rows(name, "(1)")), [-3])
        self.assertEqual(last(rows("t", "(1)")), [-3])

    def test_rows_are_not_readable(self):
        for text in ("(1", "1)", "(01)", "(1) 1000001", "(1) ?", "(1)\t", "(" * 41 + ")" * 41):
            self.assertEqual(last(table(ONE), rows("t", text)), [-1])

    def test_no_rows(self):
        for text in ("1", "a", "(1) 1", "((1))", "(1) ((a))", "((()))", "(1) (1 (()))"):
            self.assertEqual(last(table(ONE), rows("t", text)), [-2])

    def test_40_rows_and_41(self):
        self.assertEqual(last(table(ONE), rows("t", "(1)" * 40)), [40])
        self.assertEqual(last(table(ONE), rows("t", "(1)" * 41)), [-2])

    def test_rows_that_do_not_fit(self):
        head = table("(table t ((a (up 5)) (b (of x y) maybe)) (1 x))")
        for text in ("()", "(1)", "(1 x 1)", "(5 x)", "(x x)", "(1 1)", "(1 z)", "(() x)", "(1 x) (1)"):
            self.assertEqual(last(head, rows("t", text)), [-4], text)
        self.assertEqual(last(head, rows("t", "(4 y) (0 ())")), [2])

    def test_the_order_of_refusals(self):
        self.assertEqual(last(table(ONE), rows("u", "(1")), [-3])
        self.assertEqual(last(table(ONE), rows("u", "1")), [-3])
        self.assertEqual(last(table(ONE), rows("u", "(99)")), [-3])
        self.assertEqual(last(table(ONE), rows("t", "1 (99) 01")), [-1])
        self.assertEqual(last(table(ONE), rows("t", "(99) 1")), [-2])
        self.assertEqual(last(table(ONE), rows("t", "(99)" * 41)), [-2])


if __name__ == "__main__":
    unittest.main()
