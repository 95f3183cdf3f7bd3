"""Promise 7: shown, and size as the document's calls tell it."""

import unittest

from lines import alone, check, claim, drop, last, rows, run, shown, size, table, test, text_bytes

ONE = "(table t ((a (up 10))) (1))"
WORDS = ["w234567890123456789" + sign for sign in "abcdefghij"]


class Shown(unittest.TestCase):
    def shown_as(self, text, written):
        self.assertEqual(run(table(text), shown("t"))[1], text_bytes(written), text)

    def as_it_is(self, *texts):
        for text in texts:
            self.shown_as(text, text)

    def test_columns_of_each_kind(self):
        self.as_it_is(ONE, "(table t ((a (up 1))) (0) (0))", "(table t ((a (up 1000000))) (999999) (0))",
                      "(table t ((a (of x))) (x))", "(table t ((a (of x y Z.z-9))) (Z.z-9) (x) (y))",
                      "(table t ((a (up 5) maybe)) (4) (()))", "(table t ((a (of x y) maybe)) (()) (y))",
                      "(table t ((a (up 5)) (b (of x)) (c (up 5) maybe) (d (of x) maybe)) (1 x () ()) (2 x 3 x))")

    def test_missing_cells(self):
        self.as_it_is("(table t ((a (up 9) maybe)) (()) (()))", "(table t ((a (up 9) maybe) (b (of x) maybe)) (() ()) (() x))",
                      "(table t ((a (up 9) maybe) (b (up 9)) (c (of x) maybe)) (() 0 ()) (0 0 x))")

    def test_tables_without_rows(self):
        self.as_it_is("(table t ((a (up 9))))", "(table t ((a (up 9) maybe) (b (of x y))))")

    def test_words_called_like_the_documents_own(self):
        self.as_it_is("(table t ((maybe (of maybe of up table) maybe) (up (up 9)) (table (of t))) (maybe 1 t) (() 2 t))")
        self.assertEqual(last(table("(table table ((table (of table))) (table))"), shown("table")),
                         text_bytes("(table table ((table (of table))) (table))"))

    def test_a_table_held_from_a_text_with_many_blanks(self):
        blank = " \n\n \n  "
        parts = ["", "(", "table", "t", "(", "(", "a", "(", "up", "9", ")", "maybe", ")", "(", "b", "(", "of", "x", ")", ")", ")",
                 "(", "8", "x", ")", "(", "(", ")", "x", ")", ")", ""]
        self.shown_as(blank.join(parts), "(table t ((a (up 9) maybe) (b (of x))) (8 x) (() x))")
        self.shown_as("(table t ((a (up 9))) (1))" + " " * 3900, "(table t ((a (up 9))) (1))")
        self.shown_as("(table t ((a (up 9)))\n(1)\n(2)\n)\n", "(table t ((a (up 9))) (1) (2))")

    def test_a_table_held_from_a_text_with_few_blanks(self):
        self.shown_as("(table t((a(up 9)maybe)(b(of x)maybe))(()())(1())(()x))",
                      "(table t ((a (up 9) maybe) (b (of x) maybe)) (() ()) (1 ()) (() x))")

    def test_behind_a_call_of_rows(self):
        head = "(table t ((a (up 9)) (b (of x y) maybe))"
        found = run(table(head + " (1 x))"), rows("t", "\n(8())(0\ny) "), shown("t"), rows("t", ""), shown("t"),
                    rows("t", "(9 x)"), shown("t"), rows("t", "(3 y)"), shown("t"))
        self.assertEqual(found[1:], [[2], text_bytes(head + " (8 ()) (0 y))"), [0], text_bytes(head + ")"), [-4],
                                     text_bytes(head + ")"), [1], text_bytes(head + " (3 y))")])

    def test_each_table_is_its_own(self):
        texts = ["(table t ((a (up 9))) (1))", "(table T ((b (of x))) (x))", "(table tt ((c (up 2) maybe)) (()) (1))"]
        found = run(*[table(text) for text in texts], shown("tt"), shown("t"), shown("T"), rows("T", ""), shown("tt"),
                    shown("t"), shown("T"))
        whole = [text_bytes(text) for text in texts]
        self.assertEqual(found[3:], [whole[2], whole[0], whole[1], [0], whole[2], whole[0],
                                     text_bytes("(table T ((b (of x))))")])

    def test_what_is_shown_can_be_held_again(self):
        text = "(table t((a(up 9)maybe)(b(of x y)))(1 x)(()y))"
        again = last(table(text), shown("t"))
        self.assertEqual(run(table(again), shown("t")), [[2, 2], again])

    def test_a_great_table(self):
        head = "(table t (" + " ".join([f"({word} (of {' '.join(WORDS)}) maybe)" for word in WORDS[:6]]) + ")"
        whole = ["(" + " ".join([word] * 6) + ")" for word in WORDS] * 3
        packed = "".join(whole) + "(()()()()()())" * 10
        self.assertLessEqual(len(packed), 4000)
        found = run(table(head + ")"), rows("t", packed), shown("t"))
        self.assertEqual(found[:2], [[6, 0], [40]])
        self.assertEqual(found[2], text_bytes(head + " " + " ".join(whole + ["(() () () () () ())"] * 10) + ")"))
        self.assertGreater(len(found[2]), 5000)

    def test_no_such_table(self):
        names = ["", "u", "T", "tt", " t", "t ", "(t)", "t\n", "a", "1", "?", "table", "(table t)", [0], [116, 0], [116, 255],
                 [255], [63], [9], [116, 63], [116] * 6000, [32] * 6000, [255] * 6000, list(range(256)), "t" * 20, "t" * 21]
        for name in names:
            self.assertEqual(run(table(ONE), shown(name), shown("t"))[1:], [[-3], text_bytes(ONE)], name)
            self.assertEqual(run(shown(name)), [[-3]])

    def test_a_refused_table_is_not_shown(self):
        found = run(table("(table t ((a (up 9))) (9))"), shown("t"), table(ONE), table("(table t ((b (up 9))))"), shown("t"))
        self.assertEqual(found, [[-4], [-3], [1, 1], [-5], text_bytes(ONE)])


class Size(unittest.TestCase):
    def test_a_new_object(self):
        self.assertEqual(run(size()), [[0, 0, 0]])

    def test_behind_each_call_that_changes(self):
        found = run(
            table("(table t ((a (up 9))) (1) (2))"), size(), table("(table u ((a (up 9))))"), size(),
            table("(table v ((a (up 9))) (1) (2) (3))"), size(), claim("(key t (a))"), size(), claim("(key u (a))"), size(),
            rows("u", "(1) (2) (3) (4)"), size(), rows("t", ""), size(), drop(0), size(), drop(0), size(),
            rows("v", "(1)" * 40), size(),
        )
        self.assertEqual(found[1::2], [[1, 0, 2], [2, 0, 2], [3, 0, 5], [3, 1, 5], [3, 2, 5], [3, 2, 9], [3, 2, 7], [3, 1, 7],
                                       [3, 0, 7], [3, 0, 44]])

    def test_behind_refused_calls(self):
        head = [table("(table t ((a (up 9))) (1) (2))"), claim("(key t (a))")]
        for call in (table(""), table("(table u ((a (up 0))))"), table("(table u ((a (of x x))))"),
                     table("(table u ((a (up 9))) (9))"), table("(table t ((a (up 9))) (1) (2) (3))"), rows("u", "(1)"),
                     rows("t", "(1"), rows("t", "1"), rows("t", "(9)"), rows("t", "(1)" * 41), claim("(key t (a)"),
                     claim("(key t a)"), claim("(key u (a))"), claim("(key t (b))"), drop(1), drop(-1), alone(0, [2]),
                     shown("u"), test(2, -1, "t", "(and)")):
            found = run(*head, call, size())
            self.assertLess(found[2][0], 0, call)
            self.assertEqual(found[3], [1, 1, 2], call)

    def test_three_tables_twelve_claims_and_all_rows(self):
        full = [table("(table " + name + " ((a (up 9)))" + " (1)" * 40 + ")") for name in "tuv"] + [claim("(key t (a))")] * 12
        self.assertEqual(last(*full, size()), [3, 12, 120])
        self.assertEqual(run(*full, table("(table w ((a (up 9))) (1))"), claim("(key u (a))"), size())[-3:],
                         [[-6], [-6], [3, 12, 120]])

    def test_behind_calls_that_only_look(self):
        head = [table("(table t ((a (up 9))) (1) (1))"), claim("(key t (a))")]
        for call in (check(), alone(0, [0]), alone(0, []), shown("t"), test(0, 1, "t", "(and)"), size()):
            self.assertEqual(last(*head, call, size()), [1, 1, 2])


if __name__ == "__main__":
    unittest.main()
