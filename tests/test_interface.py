"""The interface: how calls and answers are laid, what stays as it was, and that nothing is kept."""

import copy
import unittest

from claimtables.claims import answers
from lines import PEOPLE, breakers, check, claim, drop, line, parted, row, rows, run, table, told

BASE = [
    table(PEOPLE),
    table("(table other ((n (up 10))) (1) (2))"),
    claim("(each people (or))"),
    claim("(key people (id))"),
    claim("(groups people (dept) (sum pay) 0 800)"),
    claim("(refers people (boss) other (n))"),
    claim("(each other (less (col n) 2))"),
]
# The third table and two more claims show that neither a name nor a place was taken.
PROBE = [
    check(),
    *[breakers(k) for k in range(6)],
    *[told(k) for k in range(6)],
    table("(table third ((a (of x y))) (x))"),
    table("(table fourth ((a (of x y))) (x))"),
    claim("(pairs people (not (same (one id) (two id))))"),
    claim("(key third (a))"),
    check(),
    breakers(5),
]
REFUSED = [
    table("(table third ((a (up 9))) (1)"),
    table("(table third ((a (up 0))) (1))"),
    table("(table third ((a (of x x))) (x))"),
    table("(table third ((a (up 9))) (9))"),
    table("(table people ((a (up 9))) (1))"),
    rows("third", "(1)"),
    rows("other", "(1"),
    rows("other", "(1) 1"),
    rows("other", "(1)" * 41),
    rows("other", "(1) (10)"),
    rows("people", "(1 it () 500) (1 it () 10000)"),
    claim("(key people (id)"),
    claim("(key people (id))" + " " * 700),
    claim("(keys people (id))"),
    claim("(key people (nobody))"),
    claim("(key third (a))"),
    claim("(groups people () (sum dept) 0 1)"),
    told(5),
    told(-1),
    drop(5),
    drop(-1),
    breakers(5),
    breakers(-1),
]


class Laid(unittest.TestCase):
    def test_answers_are_laid_with_their_lengths(self):
        text = "(key t (a))"
        calls = line(table("(table t ((a (up 9))) (1) (1))"), claim(text), check(), breakers(0), told(0), drop(0), drop(0),
                     check(), rows("t", "(2)"))
        self.assertEqual(answers(calls), [2, 1, 2, 1, 0, 2, 1, 1, 4, 1, 2, 0, 1] + row(text) + [1, 0, 1, -3, 1, 0, 1, 1])

    def test_every_call_is_a_whole_list(self):
        for call in (check(), told(0), table(""), rows("", ""), claim("")):
            self.assertIs(type(answers(call)), list)
            self.assertTrue(all(type(number) is int for number in answers(line(table(PEOPLE), call))))

    def test_texts_and_names_of_6000_bytes_and_of_none(self):
        for size in (0, 6000):
            calls = line(table([32] * size), check(), claim([32] * size), check(), rows([97] * size, ""), check())
            self.assertEqual(parted(answers(calls)), [[-1], [0], [-1], [0], [-3], [0]])

    def test_60_calls(self):
        self.assertEqual(answers(check() * 60), [1, 0] * 60)
        self.assertEqual(answers(told(0) * 60), [1, -3] * 60)

    def test_the_calls_that_come_later_are_gone_past(self):
        huge = 1000000000000000000
        later = [[7, 0], [8, -1] + row([]), [8, 2, 3, 0, 5, 6], [9, 1], [10] + row("people"), [12], [7, -huge], [9, huge],
                 [11, 0, -1] + row("people") + row("(and)"), [11, -huge, huge] + row("") + row(""), [8, 0, 1, huge]]
        for call in later:
            found = run(*BASE, call, check(), call, breakers(2))
            self.assertEqual(found[8], [5, 5, 1, 1, 1, 1])
            self.assertEqual(found[10], [1, 3, 0, 1, 4])
            self.assertEqual(len(found), 11)


class Kept(unittest.TestCase):
    def test_the_base_answers(self):
        self.assertEqual(run(*BASE), [[4, 5], [1, 2], [0], [1], [2], [3], [4]])

    def test_a_refused_call_leaves_the_object_as_it_was(self):
        plain = run(*BASE, *PROBE)[len(BASE):]
        self.assertEqual(plain[0], [5, 5, 1, 1, 1, 1])
        self.assertEqual(plain[13:17], [[1, 1], [-6], [5], [6]])
        for call in REFUSED:
            found = run(*BASE, call, *PROBE)
            self.assertEqual(len(found[len(BASE)]), 1)
            self.assertLess(found[len(BASE)][0], 0, call)
            self.assertEqual(found[len(BASE) + 1:], plain, call)

    def test_a_fourth_table_and_a_thirteenth_claim_leave_it_too(self):
        full = [*BASE, table("(table third ((a (of x y))) (x))"), *[claim("(key other (n))")] * 7]
        probe = [check(), breakers(0), breakers(11), told(11), rows("third", "(y)"), drop(11), claim("(key other (n))")]
        plain = run(*full, *probe)[len(full):]
        for call in (table("(table fourth ((a (up 9))))"), claim("(each other (or))")):
            found = run(*full, call, *probe)
            self.assertEqual(found[len(full):], [[-6]] + plain)
        found = run(*full, table("(table fourth ((a (up 9))))"), rows("fourth", ""))
        self.assertEqual(found[-2:], [[-6], [-3]])

    def test_what_only_looks_changes_nothing(self):
        plain = run(*BASE, *PROBE)[len(BASE):]
        for call in (check(), breakers(0), breakers(3), told(2)):
            self.assertEqual(run(*BASE, call, *PROBE)[len(BASE) + 1:], plain)

    def test_the_list_handed_in_stays_as_it_was(self):
        calls = line(*BASE, *REFUSED, drop(1), rows("people", "(1 hr () 0)"), *PROBE)
        before = copy.deepcopy(calls)
        answers(calls)
        self.assertEqual(calls, before)

    def test_what_is_given_back_is_a_list_of_its_own(self):
        calls = check()
        given = answers(calls)
        given.append(7)
        self.assertEqual(answers(calls), [1, 0])
        self.assertEqual(calls, [5])

    def test_a_second_time_answers_as_the_first(self):
        calls = line(*BASE, drop(0), rows("people", ""), *PROBE)
        first = answers(calls)
        self.assertEqual(answers(check()), [1, 0])
        self.assertEqual(run(rows("people", "")), [[-3]])
        self.assertEqual(answers(calls), first)


if __name__ == "__main__":
    unittest.main()
