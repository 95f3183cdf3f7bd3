"""Promise 8: the call test, on one row and on two, its refusals, and the order of these."""

import unittest

from lines import broken, last, rows, run, table, test

CELLS = "(table t ((a (up 100) maybe) (b (up 100) maybe) (w (of x y) maybe)) (1 2 x) (2 1 y) (() 2 x) (2 () ()) (2 2 y))"
HUGE = 1000000000000000000
COUNT = 5

ON_ONE = (
    ("(less (col a) (col b))", [0]),
    ("(less (col a) 2)", [0]),
    ("(less 1 (col a))", [1, 3, 4]),
    ("(less (col w) (word y))", []),
    ("(less 0 (word y))", []),
    ("(same (col a) (col b))", [4]),
    ("(same (col a) (col a))", [0, 1, 3, 4]),
    ("(same (col w) (word x))", [0, 2]),
    ("(same (word z) (word z))", [0, 1, 2, 3, 4]),
    ("(same (col a) (word x))", []),
    ("(gone (col a))", [2]),
    ("(gone (col w))", [3]),
    ("(gone 0)", []),
    ("(gone (word x))", []),
    ("(gone (add (col a) (col b)))", [2, 3]),
    ("(gone (sub (col a) (col b)))", [0, 2, 3]),
    ("(gone (add (col w) 1))", [0, 1, 2, 3, 4]),
    ("(same (add (col a) (col b)) 3)", [0, 1]),
    ("(same (sub (col a) (col b)) 0)", [4]),
    ("(less 1000000 (add 1000000 (col a)))", [0, 1, 3, 4]),
    ("(and)", [0, 1, 2, 3, 4]),
    ("(or)", []),
    ("(not (and))", []),
    ("(not (or))", [0, 1, 2, 3, 4]),
    ("(and (same (col a) 2) (same (col w) (word y)))", [1, 4]),
    ("(or (same (col a) 1) (gone (col w)))", [0, 3]),
    ("(not (less (col a) 2))", [1, 2, 3, 4]),
)

ON_TWO = (
    ("(less (one a) (two a))", [(0, 1), (0, 3), (0, 4)]),
    ("(less (two a) (one a))", [(1, 0), (3, 0), (4, 0)]),
    ("(same (one w) (two w))", [(0, 0), (0, 2), (1, 1), (1, 4), (2, 0), (2, 2), (4, 1), (4, 4)]),
    ("(same (one a) (two b))", [(0, 1), (1, 0), (1, 2), (1, 4), (3, 0), (3, 2), (3, 4), (4, 0), (4, 2), (4, 4)]),
    ("(gone (sub (two b) (one b)))", [(0, 1), (0, 3), (1, 3), (2, 1), (2, 3), (3, 0), (3, 1), (3, 2), (3, 3), (3, 4), (4, 1),
                                      (4, 3)]),
    ("(and (gone (one a)) (gone (two w)))", [(2, 3)]),
    ("(and (same (one a) 1) (not (gone (two a))))", [(0, 0), (0, 1), (0, 3), (0, 4)]),
    ("(and)", [(i, j) for i in range(COUNT) for j in range(COUNT)]),
    ("(or)", []),
    ("(less 1 2)", [(i, j) for i in range(COUNT) for j in range(COUNT)]),
)


def one(i, text, j=-1):
    return last(table(CELLS), test(i, j, "t", text))


def nested(depth, name):
    """A condition whose lists stand so deep in one another."""
    return "(not " * (depth - 2) + f"(gone ({name} a))" + ")" * (depth - 2)


def nested_sum(depth, name, total):
    """A condition on a sum whose lists stand so deep in one another."""
    return f"(same {total} " + "(add 1 " * (depth - 2) + f"({name} a)" + ")" * (depth - 1)


class OnOneRow(unittest.TestCase):
    def test_every_condition(self):
        for text, found in ON_ONE:
            answers = run(table(CELLS), *[test(i, -1, "t", text) for i in range(COUNT)])[1:]
            self.assertEqual(answers, [[1 if i in found else 0] for i in range(COUNT)], text)

    def test_it_agrees_with_each(self):
        for text, found in ON_ONE:
            self.assertEqual(broken([CELLS], "(each t " + text + ")"), [[i] for i in range(COUNT) if i not in found], text)

    def test_it_is_of_the_rows_of_now_and_of_its_own_table(self):
        pair = [table("(table t ((a (up 9))) (1))"), table("(table u ((a (up 9))) (2) (1))")]
        found = run(*pair, test(0, -1, "t", "(same (col a) 1)"), test(0, -1, "u", "(same (col a) 1)"),
                    test(1, -1, "u", "(same (col a) 1)"), rows("u", "(1)"), test(0, -1, "u", "(same (col a) 1)"),
                    test(1, -1, "u", "(same (col a) 1)"), rows("t", ""), test(0, -1, "t", "(same (col a) 1)"))
        self.assertEqual(found[2:], [[1], [0], [1], [1], [1], [-4], [0], [-4]])

    def test_blanks_in_the_condition(self):
        self.assertEqual(one(0, "\n ( less(col a)\n2 )\n"), [1])
        self.assertEqual(one(1, "\n ( less(col a)\n2 )\n"), [0])

    def test_words_called_like_the_documents_own(self):
        held = table("(table and ((col (of col one)) (one (up 9)) (two (up 9))) (one 1 2))")
        for text, answer in (("(same (col col) (word one))", 1), ("(same (col col) (word col))", 0),
                             ("(less (col one) (col two))", 1), ("(same (word nobody) (word one))", 0)):
            self.assertEqual(last(held, test(0, -1, "and", text)), [answer], text)
        self.assertEqual(last(held, test(0, 0, "and", "(less (one one) (two two))")), [1])


class OnTwoRows(unittest.TestCase):
    def test_every_condition(self):
        for text, found in ON_TWO:
            for i in range(COUNT):
                for j in range(COUNT):
                    self.assertEqual(one(i, text, j), [1 if (i, j) in found else 0], (text, i, j))

    def test_it_agrees_with_pairs(self):
        for text, found in ON_TWO:
            ahead = [[i, j] for i in range(COUNT) for j in range(i + 1, COUNT)]
            self.assertEqual(broken([CELLS], "(pairs t " + text + ")"), [each for each in ahead if tuple(each) not in found], text)

    def test_i_and_j_the_same_and_i_behind_j(self):
        self.assertEqual(one(0, "(same (one a) (two a))", 0), [1])
        self.assertEqual(one(2, "(same (one a) (two a))", 2), [0])
        self.assertEqual(one(1, "(less (one a) (two a))", 0), [0])
        self.assertEqual(one(1, "(less (two a) (one a))", 0), [1])


class AndOrDepth(unittest.TestCase):
    def test_and_and_or_of_none(self):
        for j in (-1, 0, 4):
            self.assertEqual(one(0, "(and)", j), [1])
            self.assertEqual(one(0, "(or)", j), [0])
            self.assertEqual(one(0, "(and (and) (or))", j), [0])
            self.assertEqual(one(0, "(or (and) (or))", j), [1])

    def test_as_deep_as_a_readable_text_may_be(self):
        for name, j, cell in (("col", -1, 1), ("one", 1, 1), ("two", 1, 2)):
            for depth in (39, 40):
                self.assertEqual(one(0, nested(depth, name), j), [depth % 2])
                self.assertEqual(one(0, nested_sum(depth, name, depth - 2 + cell), j), [1])
                self.assertEqual(one(0, nested_sum(depth, name, depth - 1 + cell), j), [0])
            self.assertEqual(one(0, nested(41, name), j), [-1])
            self.assertEqual(one(0, nested_sum(41, name, 40), j), [-1])

    def test_as_long_as_a_readable_text_may_be(self):
        for j in (-1, 1):
            for many, answer in ((3999, 1), (4000, 1), (4001, -1), (6000, -1)):
                text = "(or" + "(or)" * 990 + "(and)" + ")"
                self.assertEqual(one(0, text + " " * (many - len(text)), j), [answer])
            self.assertEqual(one(0, "(and" + "(and)" * 799 + ")", j), [1])
            self.assertEqual(one(0, "(and" + "(and)" * 798 + "(or)" + ")", j), [0])


class Refused(unittest.TestCase):
    def refused(self, number, texts, places):
        for text in texts:
            for i, j in places:
                self.assertEqual(one(i, text, j), [number], (text, i, j))

    def test_no_such_table(self):
        for name in ("", "u", "T", "tt", " t", "t ", "(t)", "t\n", "a", [0], [116, 0], [116, 255], [63], [116] * 6000,
                     [255] * 6000):
            self.assertEqual(last(table(CELLS), test(0, -1, name, "(and)")), [-3])
            self.assertEqual(last(table(CELLS), test(0, 1, name, "(and)")), [-3])
        self.assertEqual(last(test(0, -1, "t", "(and)")), [-3])

    def test_no_one_tree(self):
        self.refused(-1, ("", " \n", "(and", "and)", ")(", "(and) (and)", "(and) 1", "(less 01 2)", "(less 1000001 2)",
                          "(and)\t", "(and ?)", "(same (word 1a) 1)", "(same (word " + "a" * 21 + ") 1)", [40, 97, 255, 41]),
                     ((0, -1), (0, 0), (4, 1)))

    def test_no_condition(self):
        self.refused(-2, ("1", "a", "()", "and", "(less)", "(less 1)", "(less 1 2 3)", "(same 1)", "(same 1 2 3)", "(gone)",
                          "(gone 1 2)", "(not)", "(not (and) (and))", "(not 1)", "(and 1)", "(or a)", "(and (and) (x))",
                          "((and))", "(1)", "(less (and) 1)", "(col a)", "(one a)", "(add 1 2)", "(more 1 2)",
                          "(gone a)", "(gone ())", "(gone (word))", "(gone (word 1))", "(gone (word a b))", "(gone (col))",
                          "(gone (col 1))", "(gone (one))", "(gone (two a b))", "(gone (add 1))", "(gone (add 1 2 3))",
                          "(gone (sub 1 ()))", "(gone (mul 1 2))", "(each t (and))", "(key t (a))"),
                     ((0, -1), (0, 0), (4, 1)))

    def test_one_row_and_two_rows_name_cells_in_their_own_way(self):
        for text in ("(gone (one a))", "(gone (two a))", "(less (one a) (two a))", "(and (or (not (gone (add 1 (one a))))))"):
            self.refused(-2, [text], ((0, -1), (2, -1)))
            self.assertIn(one(0, text, 1), ([0], [1]))
        for text in ("(gone (col a))", "(less (col a) (col b))", "(and (or (not (gone (sub 1 (col a))))))"):
            self.refused(-2, [text], ((0, 0), (0, 1), (4, 2)))
            self.assertIn(one(0, text), ([0], [1]))
        self.refused(-2, ("(less (col a) (one a))", "(same (two a) (col a))", "(and (gone (col a)) (gone (two a)))"),
                     ((0, -1), (0, 1)))

    def test_columns_that_are_not_there(self):
        self.refused(-5, ("(gone (col d))", "(gone (col A))", "(gone (col t))", "(less (col a) (col d))",
                          "(or (and) (not (less 1 (add 1 (sub (col d) 1)))))", "(and (or) (gone (col d)))"), ((0, -1), (4, -1)))
        self.refused(-5, ("(gone (one d))", "(gone (two d))", "(same (one a) (two d))", "(same (one d) (two a))",
                          "(or (and) (not (less 1 (add 1 (sub (two d) 1)))))"), ((0, 0), (0, 1), (4, 2)))

    def test_a_column_of_another_table_is_not_there(self):
        pair = [table(CELLS), table("(table u ((d (up 9))) (1))")]
        self.assertEqual(last(*pair, test(0, -1, "t", "(gone (col d))")), [-5])
        self.assertEqual(last(*pair, test(0, -1, "u", "(gone (col a))")), [-5])
        self.assertEqual(last(*pair, test(0, -1, "u", "(gone (col d))")), [0])

    def test_numbers_that_are_no_rows(self):
        wrong = (-HUGE, -5, -2, -1, 5, 6, 40, HUGE)
        self.refused(-4, ("(and)", "(gone (col a))"), [(i, -1) for i in wrong])
        self.refused(-4, ("(and)", "(gone (one a))"), [(i, 0) for i in wrong] + [(i, 4) for i in wrong])
        self.refused(-4, ("(and)", "(gone (two a))"), [(0, j) for j in (5, 6, 40, HUGE)] + [(5, 5), (HUGE, HUGE)])

    def test_j_below_minus_1(self):
        for j in (-2, -3, -5, -HUGE):
            self.refused(-4, ("(and)", "(or)", "(gone (col a))"), ((0, j), (4, j), (5, j), (j, j)))
            self.refused(-2, ("(gone (one a))", "(gone (two a))"), ((0, j), (5, j)))
            self.refused(-5, ("(gone (col d))",), ((0, j), (5, j)))

    def test_a_table_without_rows(self):
        for i, j in ((0, -1), (0, 0), (-1, -1), (-1, 0)):
            self.assertEqual(last(table("(table t ((a (up 9))))"), test(i, j, "t", "(and)")), [-4])


class OrderOfRefusals(unittest.TestCase):
    def refused(self, number, name, text, places):
        for i, j in places:
            self.assertEqual(last(table(CELLS), test(i, j, name, text)), [number], (name, text, i, j))

    def test_no_such_table_and_whatever_else(self):
        for text in ("(and", "(and) (and)", "", "(x)", "(gone (col d))", "(gone (one d))", "(and)", "(" * 6000):
            self.refused(-3, "u", text, ((0, -1), (0, 1), (9, -1), (0, -2), (0, 9)))

    def test_not_readable_and_no_condition(self):
        for text in ("(x", "(x) (x)", "(gone (add 1)) 01", "1 2", "(less 1 1000001 2)", "(" * 41 + ")" * 41):
            self.refused(-1, "t", text, ((0, -1), (0, 1)))

    def test_not_readable_and_a_column_or_a_row_that_is_not_there(self):
        for text in ("(gone (col d)", "(gone (one d)) (and)", "(and) (and)"):
            self.refused(-1, "t", text, ((0, -1), (0, 1), (9, -1), (0, -2), (0, 9)))

    def test_no_condition_and_a_column_that_is_not_there(self):
        for text in ("(gone (col d) 1)", "(and (gone (col d)) (x))", "(and (gone (one d)) (x))", "(less (two d))"):
            self.refused(-2, "t", text, ((0, -1), (0, 1)))
        self.refused(-2, "t", "(gone (one d))", ((0, -1), (0, -2)))
        self.refused(-2, "t", "(gone (col d))", ((0, 1), (0, 9)))

    def test_no_condition_and_a_number_that_is_no_rows(self):
        self.refused(-2, "t", "(x)", ((9, -1), (-1, -1), (0, -2), (0, 9), (9, 9), (HUGE, -HUGE)))
        self.refused(-2, "t", "(gone (one a))", ((9, -1), (0, -2), (0, -HUGE)))
        self.refused(-2, "t", "(gone (col a))", ((9, 0), (0, 9), (0, HUGE)))

    def test_a_column_that_is_not_there_and_a_number_that_is_no_rows(self):
        self.refused(-5, "t", "(gone (col d))", ((9, -1), (-1, -1), (0, -2), (HUGE, -HUGE)))
        self.refused(-5, "t", "(gone (two d))", ((9, 0), (0, 9), (-1, 0), (HUGE, HUGE)))


if __name__ == "__main__":
    unittest.main()
