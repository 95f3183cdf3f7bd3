"""Promises 3 and 4: claim, told and drop, their refusals, and the order of these."""

import unittest

from lines import breakers, check, claim, drop, last, run, table, text_bytes, told

TABLES = [
    table("(table t ((a (up 10)) (b (of x y) maybe) (c (up 10) maybe)) (1 x 2))"),
    table("(table u ((a (up 10)) (d (of x y))) (1 x))"),
]


def answer(text):
    return last(*TABLES, claim(text))


class ClaimShape(unittest.TestCase):
    def held(self, *texts):
        for text in texts:
            self.assertEqual(run(*TABLES, claim(text), told(0))[2:], [[0], text_bytes(text)], text)

    def refused(self, number, *texts):
        for text in texts:
            self.assertEqual(answer(text), [number], text)

    def test_ordinary_claims(self):
        self.held("(each t (less (col a) 5))", "(any t (gone (col b)))", "(pairs t (same (one a) (two c)))",
                  "(next t (not (same (two b) (word x))))", "(key t (a))", "(key t (a b c))", "(fixes t (a) (b c))",
                  "(refers t (a) u (a))", "(refers t (a b) u (a d))", "(refers t (a) t (c))",
                  "(groups t (b) (count) 1 2)", "(groups t (a b) (sum c) 0 1000000)")

    def test_lists_of_columns_that_are_empty(self):
        self.held("(key t ())", "(fixes t () ())", "(fixes t (a) ())", "(fixes t () (a))", "(groups t () (count) 0 0)",
                  "(groups t () (sum a) 0 0)")
        self.refused(-2, "(refers t () u ())", "(refers t () u (a))", "(refers t (a) u ())")

    def test_what_no_rule_forbids(self):
        self.held("(key t (a a))", "(refers t (a a) u (a d))", "(refers t (a) u (d))", "(groups t () (count) 2 1)",
                  "(each t (and))", "(any t (or))", "(each t (same (word nobody) (word nothing)))",
                  "(pairs t (less 1 2))", "(groups t (c) (sum c) 0 0)")

    def test_no_one_tree(self):
        self.refused(-1, "", "(key t (a)) (key t (a))", "(key t (a)) 1", "(key t (a)", "(key t (a)))", "(key t (01))",
                     "(groups t () (count) 0 1000001)", "(key t (a))\r")

    def test_no_claim(self):
        self.refused(-2, "1", "key", "()", "(key)", "(key t)", "(keys t (a))", "(t (a))", "((key) t (a))", "(1 t (a))",
                     "(key 1 (a))", "(key (t) (a))", "(key t (a) (b))", "(key t a)", "(key t 1)", "(key t (1))",
                     "(key t ((a)))", "(key t (a ()))", "(not (key t (a)))", "(and)", "(less 1 2)", "(Key t (a))",
                     "(closed t (a))", "(table t ((a (up 1))))", "(count t (a))")

    def test_no_fixes(self):
        self.refused(-2, "(fixes t)", "(fixes t (a))", "(fixes t (a) b)", "(fixes t a (b))", "(fixes t (a) (b) (c))",
                     "(fixes t (a) (1))", "(fixes t (()) (b))", "(fixes 1 (a) (b))")

    def test_no_refers(self):
        self.refused(-2, "(refers t)", "(refers t (a))", "(refers t (a) u)", "(refers t (a) u a)", "(refers t a u (a))",
                     "(refers t (a) (u) (a))", "(refers t (a) 1 (a))", "(refers 1 (a) u (a))", "(refers t (1) u (a))",
                     "(refers t (a) u (1))", "(refers t (a) u (a) (a))", "(refers t (a b) u (a))",
                     "(refers t (a) u (a d))", "(refers t u (a) (a))")

    def test_no_groups(self):
        self.refused(-2, "(groups t (a))", "(groups t (a) (count))", "(groups t (a) (count) 1)",
                     "(groups t (a) (count) 1 2 3)", "(groups t a (count) 1 2)", "(groups t (1) (count) 1 2)",
                     "(groups t (a) count 1 2)", "(groups t (a) (count a) 1 2)", "(groups t (a) (sum) 1 2)",
                     "(groups t (a) (sum a c) 1 2)", "(groups t (a) (sum 1) 1 2)", "(groups t (a) (sum (a)) 1 2)",
                     "(groups t (a) sum 1 2)", "(groups t (a) () 1 2)", "(groups t (a) (max a) 1 2)",
                     "(groups t (a) 5 1 2)", "(groups t (a) (count) x 2)", "(groups t (a) (count) 1 x)",
                     "(groups t (a) (count) () 2)", "(groups t (a) (count) 1 (2))", "(groups 1 (a) (count) 1 2)",
                     "(group t (a) (count) 1 2)", "(refers t (a) (count) 1 2)", "((groups) t (a) (count) 1 2)")

    def test_no_condition(self):
        for head, name in (("each", "col"), ("any", "col"), ("pairs", "one"), ("next", "two")):
            self.held(f"({head} t (less ({name} a) 1))")
            for tree in ("1", "a", "()", "(less)", "(less 1)", "(less 1 2 3)", "(same 1)", "(same 1 2 3)", "(gone)",
                         "(gone 1 2)", "(not)", "(not (and) (and))", "(not 1)", "(and 1)", "(or a)", "(and (and) (x))",
                         "((and))", "(1)", "(less (and) 1)", "(and (less 1))", "(true)", f"({name} a)", "(add 1 2)",
                         "(more 1 2)"):
                self.refused(-2, f"({head} t {tree})")
            self.refused(-2, f"({head} t)", f"({head} t (and) (and))", f"({head} (and))", f"({head} 1 (and))")

    def test_no_expression(self):
        for head, name in (("each", "col"), ("any", "col"), ("pairs", "one"), ("next", "two")):
            for tree in ("a", "()", "(word)", "(word 1)", "(word (a))", "(word a b)", f"({name})", f"({name} 1)",
                         f"({name} (a))", f"({name} a b)", "(add 1)", "(add 1 2 3)", "(sub 1)", "(sub 1 2 3)",
                         "(add a 1)", "(sub 1 ())", "(mul 1 2)", "(1)", "((word) a)", "(less 1 2)", "(cell a)"):
                self.refused(-2, f"({head} t (gone {tree}))", f"({head} t (less {tree} 1))",
                             f"({head} t (same 1 {tree}))", f"({head} t (gone (add 1 {tree})))")

    def test_one_row_and_two_rows_name_cells_in_their_own_way(self):
        for head in ("each", "any"):
            self.held(f"({head} t (gone (col a)))")
            self.refused(-2, f"({head} t (gone (one a)))", f"({head} t (not (gone (sub 1 (two a)))))")
        for head in ("pairs", "next"):
            self.held(f"({head} t (gone (one a)))", f"({head} t (gone (two a)))")
            self.refused(-2, f"({head} t (gone (col a)))", f"({head} t (and (gone (add 1 (col a)))))")

    def test_tables_that_are_not_there(self):
        self.refused(-3, "(each v (and))", "(any v (and))", "(pairs v (and))", "(next T (and))", "(key v ())",
                     "(fixes v () ())", "(refers v (a) t (a))", "(refers t (a) v (a))", "(groups v () (count) 0 1)",
                     "(groups v () (sum a) 0 1)")

    def test_columns_that_are_not_there(self):
        self.refused(-3, "(each t (gone (col d)))", "(any t (and (and) (or (not (less 1 (add 1 (sub (col d) 1)))))))",
                     "(pairs t (gone (one d)))", "(pairs t (same (one a) (two d)))", "(next t (less (two d) 1))",
                     "(key t (a d))", "(fixes t (d) (a))", "(fixes t (a) (d))", "(refers t (d) u (a))",
                     "(refers t (a) u (b))", "(refers t (a d) u (a d))", "(refers t (a b) u (a b))",
                     "(groups t (d) (count) 0 1)", "(groups t (a) (sum d) 0 1)", "(each t (gone (col A)))",
                     "(each u (gone (col b)))")

    def test_a_word_is_no_column(self):
        self.held("(each t (same (word d) (word col)))", "(pairs t (same (word one) (word two)))")

    def test_sums_of_numbers_alone(self):
        self.held("(groups t (b) (sum a) 0 1)", "(groups t (b) (sum c) 0 1)")
        self.refused(-3, "(groups t (a) (sum b) 0 1)", "(groups u () (sum d) 0 1)")

    def test_the_order_of_refusals(self):
        self.refused(-1, "(keys t (a))" + " " * 700, "(key v (a))" + " " * 700, "(keys) (keys)", "(key v (d)")
        self.refused(-2, "(keys v (a))", "(key v (1))", "(each v (gone (one d)))", "(fixes t (d) (1))",
                     "(refers v (a) t (a b))", "(groups t (d) (sum b) 0 x)", "(each t (and (gone (col d)) (x)))")


class ClaimsHeld(unittest.TestCase):
    def test_12_claims_and_a_thirteenth(self):
        found = run(*TABLES, *[claim("(key t (a))")] * 13, check())
        self.assertEqual(found[2:], [[k] for k in range(12)] + [[-6], [12] + [0] * 12])

    def test_the_order_of_refusals_among_claims(self):
        twelve = TABLES + [claim("(key t (a))")] * 12
        for text, number in (("(key t (a)", -1), ("(key t (1))", -2), ("(key t (d))", -3), ("(groups t () (sum b) 0 1)", -3),
                             ("(key t (b))", -6)):
            self.assertEqual(last(*twelve, claim(text)), [number])

    def test_a_claim_before_its_table(self):
        found = run(claim("(key t (a))"), TABLES[0], claim("(refers t (a) u (a))"), TABLES[1],
                    claim("(refers t (a) u (a))"), check())
        self.assertEqual(found, [[-3], [3, 1], [-3], [2, 1], [0], [1, 0]])

    def test_told_is_written_in_one_way(self):
        found = run(*TABLES, claim("\n(each\n t(and(less(col a)(add 1(sub 0 2)))( or )))\n"), told(0))
        self.assertEqual(found[3], text_bytes("(each t (and (less (col a) (add 1 (sub 0 2))) (or)))"))
        found = run(*TABLES, claim("( groups t( )( count )0 1000000 )"), told(0))
        self.assertEqual(found[3], text_bytes("(groups t () (count) 0 1000000)"))

    def test_a_text_may_be_written_longer_than_it_was_told(self):
        text = "(each t(and" + "(or)" * 171 + "))"
        self.assertLessEqual(len(text), 700)
        self.assertEqual(last(*TABLES, claim(text), told(0)), text_bytes("(each t (and" + " (or)" * 171 + "))"))

    def test_drop_moves_those_behind_it(self):
        texts = ["(key t (a))", "(key t (b))", "(key t (c))", "(key u (a))"]
        found = run(*TABLES, *[claim(text) for text in texts], drop(1), told(0), told(1), told(2), told(3), drop(2),
                    told(1), drop(0), drop(0), drop(0), check(), claim("(key u (d))"), told(0))
        self.assertEqual(found[6:], [
            [3], text_bytes(texts[0]), text_bytes(texts[2]), text_bytes(texts[3]), [-3],
            [2], text_bytes(texts[2]), [1], [0], [-3], [0], [0], text_bytes("(key u (d))"),
        ])

    def test_a_place_is_free_behind_a_drop(self):
        found = run(*TABLES, *[claim("(key t (a))")] * 12, drop(5), claim("(key t (b))"), claim("(key t (b))"), told(11))
        self.assertEqual(found[14:], [[11], [11], [-6], text_bytes("(key t (b))")])

    def test_no_claim_k(self):
        huge = 1000000000000000000
        for call in (told, drop, breakers):
            for k in (-huge, -2, -1, 2, 3, 12, huge):
                self.assertEqual(last(*TABLES, claim("(key t (a))"), claim("(key t (b))"), call(k)), [-3])
            for k in (-1, 0, 1):
                self.assertEqual(last(call(k)), [-3])
                self.assertEqual(last(*TABLES, call(k)), [-3])


if __name__ == "__main__":
    unittest.main()
