"""Promise 6: alone, its refusals, and that the object is as it was behind it."""

import itertools
import unittest

from lines import alone, breakers, check, claim, last, marks, rows, run, shown, size, table

CELLS = "(table t ((a (up 9) maybe) (b (up 9) maybe) (w (of x y) maybe)) (1 2 x) (2 1 y) (() 2 x) (2 () ()) (2 2 y))"
HEAD = CELLS[:CELLS.index(" (1 2 x)")]
LINES = ["(1 2 x)", "(2 1 y)", "(() 2 x)", "(2 () ())", "(2 2 y)"]
OTHER = "(table u ((c (up 9) maybe) (v (of x y))) (2 x) (() y))"
TABLES = [table(CELLS), table(OTHER)]
HUGE = 1000000000000000000

CLAIMS = (
    "(each t (less (col a) 2))", "(any t (gone (col a)))", "(any t (or))", "(pairs t (not (less (one a) (two a))))",
    "(pairs t (or))", "(next t (or))", "(next t (less (one a) (two a)))", "(key t (a))", "(key t ())", "(fixes t (a) (w))",
    "(fixes t () (b))", "(refers t (b) t (a))", "(refers t (a) t (b))", "(refers t (b) u (c))", "(refers t (a w) u (c v))",
    "(groups t (a) (count) 2 2)", "(groups t () (count) 2 3)", "(groups t (w) (sum a) 2 3)",
)


def on(text, *lists):
    """What alone answers with each of these lists."""
    return [each[0] for each in run(*TABLES, claim(text), *[alone(0, numbers) for numbers in lists])[3:]]


class Alone(unittest.TestCase):
    def test_each(self):
        self.assertEqual(on("(each t (less (col a) 2))", [], [0], [1], [0, 1], [2, 3, 4], [0, 1, 2, 3, 4]), [0, 0, 1, 1, 3, 4])

    def test_any_with_fewer_rows(self):
        self.assertEqual(on("(any t (gone (col a)))", [], [0], [2], [0, 1, 3, 4], [1, 2], [0, 1, 2, 3, 4]),
                         [1, 1, 0, 1, 0, 0])
        self.assertEqual(on("(any t (and))", [], [4]), [1, 0])

    def test_pairs(self):
        self.assertEqual(on("(pairs t (not (less (one a) (two a))))", [], [0], [0, 1], [1, 3, 4], [0, 1, 4], [0, 2]),
                         [0, 0, 1, 0, 2, 0])
        self.assertEqual(on("(pairs t (or))", [3], [1, 3], [1, 2, 4], [0, 1, 2, 3, 4]), [0, 1, 3, 10])

    def test_next_with_fewer_rows(self):
        text = "(next t (less (one a) (two a)))"
        self.assertEqual(on(text, [], [2], [0, 1], [0, 3], [0, 4], [1, 4], [0, 1, 3, 4], [0, 1, 2, 3, 4]),
                         [0, 0, 0, 0, 0, 1, 2, 3])
        self.assertEqual(on("(next t (or))", [0], [0, 4], [0, 2, 4], [1, 2, 3, 4]), [0, 1, 2, 3])

    def test_rows_that_stand_apart_are_next_to_one_another_alone(self):
        found = run(table("(table t ((a (up 9))) (1) (5) (0) (2))"), claim("(next t (less (one a) (two a)))"), check(),
                    alone(0, [0, 1, 3]), alone(0, [0, 3]), alone(0, [1, 3]), alone(0, [0, 2, 3]))
        self.assertEqual(found[2:], [[1, 1], [1], [0], [1], [1]])

    def test_key_and_fixes(self):
        self.assertEqual(on("(key t (a))", [], [1], [0, 1], [1, 3], [1, 3, 4], [0, 2, 4]), [0, 0, 0, 1, 3, 0])
        self.assertEqual(on("(fixes t (a) (w))", [], [1, 4], [1, 3], [1, 3, 4], [0, 1, 2]), [0, 0, 1, 2, 0])

    def test_a_claim_that_refers_to_its_own_table(self):
        text = "(table t ((a (up 9)) (b (up 9) maybe)) (1 ()) (2 1) (3 3) (4 5) (5 1))"
        lists = [[], [0], [1], [2], [0, 1], [1, 2], [3], [3, 4], [0, 3, 4], [1, 4], [0, 1, 2, 3, 4]]
        found = run(table(text), claim("(refers t (b) t (a))"), check(), *[alone(0, numbers) for numbers in lists], check())
        self.assertEqual(found[2:], [[1, 0], [0], [0], [1], [0], [0], [1], [1], [1], [0], [2], [0], [1, 0]])

    def test_a_claim_that_refers_to_another_table(self):
        pair = [table("(table t ((a (up 9) maybe)) (1) (2) (()) (3))"), table("(table u ((b (up 9))) (0) (0) (0) (0) (2))")]
        lists = [[], [0], [1], [2], [3], [0, 1], [0, 3], [0, 1, 2, 3]]
        found = run(*pair, claim("(refers t (a) u (b))"), *[alone(0, numbers) for numbers in lists])
        self.assertEqual(found[3:], [[0], [1], [0], [0], [1], [1], [2], [2]])

    def test_the_numbers_are_those_of_the_claims_own_table(self):
        pair = [table("(table t ((a (up 9))) (1))"), table("(table u ((b (up 9))) (1) (2) (3))")]
        found = run(*pair, claim("(refers t (a) u (b))"), claim("(refers u (b) t (a))"), alone(0, [0]), alone(0, [1]),
                    alone(0, [0, 2]), alone(1, [0]), alone(1, [1, 2]), alone(1, [3]))
        self.assertEqual(found[4:], [[0], [-4], [-4], [0], [2], [-4]])

    def test_groups_with_fewer_rows(self):
        self.assertEqual(on("(groups t (a) (count) 2 2)", [], [0], [1, 3], [1, 3, 4], [0, 1, 3], [0, 1, 2, 3, 4]),
                         [0, 1, 0, 1, 1, 3])
        self.assertEqual(on("(groups t () (count) 2 3)", [], [0], [0, 1], [0, 1, 2], [0, 1, 2, 3]), [0, 1, 0, 0, 1])
        self.assertEqual(on("(groups t (w) (sum a) 2 3)", [0], [1], [1, 4], [3], [2]), [1, 0, 1, 0, 1])

    def test_no_rows_and_all_rows(self):
        for text in CLAIMS:
            found = run(*TABLES, claim(text), check(), alone(0, [0, 1, 2, 3, 4]), alone(0, []))
            self.assertEqual(found[4], found[3][1:], text)
            self.assertEqual(found[5], [1 if text.startswith("(any") else 0], text)

    def test_it_is_as_if_the_table_had_just_these_rows(self):
        for text in CLAIMS:
            for many in range(6):
                for chosen in itertools.combinations(range(5), many):
                    fewer = HEAD + " " + " ".join([LINES[k] for k in chosen]) + ")"
                    plain = last(table(fewer), table(OTHER), claim(text), check())
                    self.assertEqual(last(*TABLES, claim(text), alone(0, chosen)), plain[1:], (text, chosen))

    def test_40_rows(self):
        head = [table("(table t ((a (up 1)))" + " (0)" * 40 + ")"), claim("(key t (a))")]
        self.assertEqual(last(*head, alone(0, list(range(40)))), [780])
        self.assertEqual(last(*head, alone(0, list(range(0, 40, 2)))), [190])
        self.assertEqual(last(*head, alone(0, [39])), [0])
        self.assertEqual(last(*head, alone(0, [0, 39])), [1])

    def test_a_table_without_rows(self):
        head = [table("(table t ((a (up 9))))"), claim("(any t (and))"), claim("(refers t (a) t (a))")]
        found = run(*head, alone(0, []), alone(1, []), alone(0, [0]), alone(0, [-1]), alone(1, [0]))
        self.assertEqual(found[3:], [[1], [0], [-4], [-4], [-4]])


class Refused(unittest.TestCase):
    def refused(self, *lists):
        for text in CLAIMS:
            for numbers in lists:
                self.assertEqual(last(*TABLES, claim(text), alone(0, numbers)), [-4], (text, numbers))

    def test_numbers_that_do_not_rise(self):
        self.refused([1, 0], [4, 3, 2, 1, 0], [0, 2, 1], [0, 1, 2, 4, 3], [1, 2, 0])

    def test_numbers_that_are_the_same(self):
        self.refused([0, 0], [4, 4], [0, 1, 1, 2], [0, 1, 2, 3, 4, 4], [3] * 60)

    def test_numbers_below_0(self):
        self.refused([-1], [-5], [-1, 0], [0, -1], [-2, -1], [-5, -4, -3, -2, -1])

    def test_numbers_that_are_no_rows(self):
        self.refused([5], [0, 5], [0, 1, 2, 3, 4, 5], [40], [4, 1000])

    def test_numbers_of_the_greatest_size(self):
        self.refused([HUGE], [-HUGE], [0, HUGE], [-HUGE, 0], [-HUGE, HUGE], [HUGE, HUGE], [HUGE - 1, HUGE])

    def test_60_numbers(self):
        self.refused(list(range(60)), list(range(-30, 30)), [0] * 60, list(range(59, -1, -1)),
                     [HUGE - 60 + k for k in range(60)])
        head = [table("(table t ((a (up 1)))" + " (0)" * 40 + ")"), claim("(key t (a))")]
        for many, answer in ((40, 780), (41, -4), (60, -4)):
            self.assertEqual(last(*head, alone(0, list(range(many)))), [answer])

    def test_the_order_of_refusals(self):
        for k in (-1, 1, HUGE):
            for numbers in ([5], [1, 0], [0, 0], [-1], [HUGE]):
                self.assertEqual(last(*TABLES, claim("(key t (a))"), alone(k, numbers)), [-3])

    def test_the_rows_of_now_are_counted(self):
        head = [table("(table t ((a (up 9))) (1) (1))"), claim("(key t (a))")]
        found = run(*head, alone(0, [2]), rows("t", "(1) (2) (1)"), alone(0, [0, 2]), alone(0, [0, 1]), rows("t", "(1)"),
                    alone(0, [0]), alone(0, [1]))
        self.assertEqual(found[2:], [[-4], [3], [1], [0], [1], [0], [-4]])


class AsItWas(unittest.TestCase):
    def test_check_and_shown_answer_as_ahead_of_it(self):
        for text in CLAIMS:
            looks = [check(), breakers(0), marks(0), shown("t"), shown("u"), size()]
            for numbers in ([], [0], [1, 3], [0, 1, 2, 3, 4], [5], [1, 1], [-1], [HUGE]):
                found = run(*TABLES, claim(text), *looks, alone(0, numbers), *looks)
                self.assertEqual(found[3:9], found[10:], (text, numbers))

    def test_the_same_again_answers_the_same(self):
        for text in CLAIMS:
            found = run(*TABLES, claim(text), alone(0, [1, 3]), alone(0, []), alone(0, [1, 3]), alone(0, [4]), alone(0, [1, 3]))
            self.assertEqual([found[3], found[3]], [found[5], found[7]], text)


if __name__ == "__main__":
    unittest.main()
