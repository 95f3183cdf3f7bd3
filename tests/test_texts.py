"""What is readable: the edges of texts, trees, numbers and words, seen through table, rows and claim."""

import unittest

from lines import breakers, check, claim, last, rows, run, table, text_bytes, told

WORDS = "(table t ((a (of x))))"


def rows_answer(text):
    return last(table("(table t ((a (up 1000000) maybe)) (1))"), rows("t", text))


def nested(depth):
    """A claim whose lists stand so deep in one another."""
    return "(each t " + "(not " * (depth - 3) + "(less 1 (add 1 1))" + ")" * (depth - 3) + ")"


class Texts(unittest.TestCase):
    def test_4000_bytes_and_4001(self):
        for size, answer in ((3999, [1, 1]), (4000, [1, 1]), (4001, [-1]), (6000, [-1])):
            text = "(table t ((a (up 9))) (1))"
            self.assertEqual(last(table(text + " " * (size - len(text)))), answer)
            self.assertEqual(last(table(" " * (size - len(text)) + text)), answer)

    def test_4000_bytes_and_4001_of_rows(self):
        self.assertEqual(rows_answer("(1)" + "\n" * 3997), [1])
        self.assertEqual(rows_answer("(1)" + "\n" * 3998), [-1])

    def test_claims_of_700_bytes_and_of_701(self):
        text = "(each t (and))"
        for size, answer in ((699, [0]), (700, [0]), (701, [-1]), (4000, [-1]), (4001, [-1])):
            padded = text[:-1] + " " * (size - len(text)) + ")"
            self.assertEqual(len(padded), size)
            self.assertEqual(last(table(WORDS), claim(padded)), answer)
            self.assertEqual(last(table(WORDS), claim(text + "\n" * (size - len(text)))), answer)

    def test_40_deep_and_41_deep(self):
        self.assertEqual(last(table(WORDS), claim(nested(40))), [0])
        self.assertEqual(last(table(WORDS), claim(nested(41))), [-1])
        self.assertEqual(last(table(WORDS), claim("(" * 40 + ")" * 40)), [-2])
        self.assertEqual(last(table(WORDS), claim("(" * 41 + ")" * 41)), [-1])
        self.assertEqual(last(table("(" * 40 + ")" * 40)), [-2])
        self.assertEqual(last(table("(" * 41 + ")" * 41)), [-1])
        self.assertEqual(rows_answer("(" * 40 + ")" * 40), [-2])
        self.assertEqual(rows_answer("(" * 41 + ")" * 41), [-1])

    def test_deep_lists_one_behind_the_other_do_not_add_up(self):
        deep = "(" * 40 + ")" * 40
        self.assertEqual(rows_answer(deep + deep), [-2])
        self.assertEqual(rows_answer("(1)" * 40), [40])

    def test_a_deep_claim_is_looked_at_and_told(self):
        found = run(table("(table t ((a (of x))) (x))"), claim(nested(40)), told(0), breakers(0))
        self.assertEqual(found[2], text_bytes(nested(40)))
        self.assertEqual(found[3], [1, 1, 0])

    def test_blanks_around_and_within(self):
        blank = " \n \n\n"
        text = blank.join(["", "(", "table", "t", "(", "(", "a", "(", "up", "9", ")", ")", ")", "(", "8", ")", ")", ""])
        self.assertEqual(last(table(text)), [1, 1])
        self.assertEqual(last(table("(table t((a(up 9)maybe))(8)( ( ) )(()))")), [1, 3])

    def test_a_blank_is_needed_between_leaves_alone(self):
        self.assertEqual(rows_answer("(1)(2) ( )"), [-4])
        self.assertEqual(rows_answer("(1)(2)"), [2])
        self.assertEqual(rows_answer("(1 2)"), [-4])
        self.assertEqual(rows_answer("(12)"), [1])
        self.assertEqual(last(table("(table t((a(of x y)))(x)(y))")), [1, 2])
        self.assertEqual(last(table("(table t((a(of 1x))))")), [-1])

    def test_other_bytes(self):
        other = [k for k in range(256) if chr(k) not in "() \n-.0123456789" and not (k < 128 and chr(k).isalpha())]
        self.assertEqual(len(other), 256 - 52 - 16)
        for byte in other:
            self.assertEqual(rows_answer([40, 49, 41, byte]), [-1])
            self.assertEqual(rows_answer([40, 97, byte, 41]), [-1])
            self.assertEqual(last(table(text_bytes("(table t ((a (up 9)))") + [byte] + text_bytes(")"))), [-1])
            self.assertEqual(last(table(WORDS), claim(text_bytes("(each t (and))") + [byte])), [-1])

    def test_minus_signs_and_points_stand_in_words_but_not_first(self):
        self.assertEqual(last(table("(table t-.9 ((a-b (of Z.z- z..)) ) (z..))")), [1, 1])
        for text in ("(-)", "(-1)", "(.)", "(.a)", "(-a)", "(1a)", "(1-)", "(1.0)"):
            self.assertEqual(rows_answer(text), [-1])

    def test_parentheses_have_to_match(self):
        for text in ("(", ")", "(1", "1)", ")(", "((1)", "(1))", "(1) )(", "(1)("):
            self.assertEqual(rows_answer(text), [-1])

    def test_numbers_in_their_one_way(self):
        for text in ("(00)", "(01)", "(007)", "(00000000)", "(01000000)"):
            self.assertEqual(rows_answer(text), [-1])
        self.assertEqual(rows_answer("(0) (10)"), [2])

    def test_1000000_and_1000001(self):
        self.assertEqual(last(table("(table t ((a (up 1000000))) (999999))")), [1, 1])
        self.assertEqual(last(table("(table t ((a (up 1000000))) (1000000))")), [-4])
        self.assertEqual(last(table("(table t ((a (up 1000001))))")), [-1])
        self.assertEqual(rows_answer("(1000000)"), [-4])
        self.assertEqual(rows_answer("(1000001)"), [-1])
        self.assertEqual(rows_answer("(9999999)"), [-1])
        self.assertEqual(rows_answer("(10000000)"), [-1])
        self.assertEqual(rows_answer("(" + "9" * 3900 + ")"), [-1])
        self.assertEqual(last(table(WORDS), claim("(each t (less 1000000 0))")), [0])
        self.assertEqual(last(table(WORDS), claim("(each t (less 1000001 0))")), [-1])

    def test_words_of_20_bytes_and_of_21(self):
        long = "a2345678901234567890"
        self.assertEqual(len(long), 20)
        self.assertEqual(last(table("(table " + long + " ((" + long + " (of " + long + "))) (" + long + "))")), [1, 1])
        self.assertEqual(last(table("(table t ((" + long + "1 (up 1))))")), [-1])
        self.assertEqual(last(table(WORDS), claim("(each t (same (word " + long + ") 1))")), [0])
        self.assertEqual(last(table(WORDS), claim("(each t (same (word " + long + "1) 1))")), [-1])

    def test_texts_without_trees(self):
        for text in ("", " ", "\n", " \n " * 1000):
            self.assertEqual(last(table(text)), [-1])
            self.assertEqual(last(table(WORDS), claim(text)), [-1])
            self.assertEqual(rows_answer(text), [0])

    def test_letters_of_both_sizes_are_not_the_same(self):
        self.assertEqual(last(table("(table t ((a (of x X)) (A (up 1))) (x 0) (X 0))")), [2, 2])
        found = run(table(WORDS), table("(table T ((a (of x))) (x))"), claim("(each T (or))"), claim("(each t (or))"),
                    check())
        self.assertEqual(found[1:], [[1, 1], [0], [1], [2, 1, 0]])


if __name__ == "__main__":
    unittest.main()
