"""The interface: how calls and answers are laid, what stays as it was, and that nothing is kept."""

import copy
import unittest

from claimtables.claims import answers
from lines import (
    PEOPLE, alone, breakers, check, claim, closed, drop, line, marks, row, rows, run, shown, size, table, test,
    text_bytes, told,
)

HUGE = 1000000000000000000

BASE = [
    table(PEOPLE),
    table("(table other ((n (up 10))) (1) (2))"),
    claim("(each people (or))"),
    claim("(key people (id))"),
    claim("(groups people (dept) (sum pay) 0 800)"),
    claim("(refers people (boss) other (n))"),
    claim("(each other (less (col n) 2))"),
]
# The third table and two more claims show that neither a name nor a place was taken.
PROBE = [
    check(),
    size(),
    *[breakers(k) for k in range(6)],
    *[told(k) for k in range(6)],
    shown("people"),
    shown("other"),
    marks(1),
    alone(1, [0, 1, 4]),
    closed(2),
    test(4, 1, "people", "(same (one id) (two id))"),
    table("(table third ((a (of x y))) (x))"),
    table("(table fourth ((a (of x y))) (x))"),
    claim("(pairs people (not (same (one id) (two id))))"),
    claim("(key third (a))"),
    check(),
    breakers(5),
    size(),
    shown("third"),
]
REFUSED = [
    table("(table third ((a (up 9))) (1)"),
    table("(table third ((a (up 0))) (1))"),
    table("(table third ((a (of x x))) (x))"),
    table("(table third ((a (up 9))) (9))"),
    table("(table people ((a (up 9))) (1))"),
    rows("third", "(1)"),
    rows("other", "(1"),
    rows("other", "(1) 1"),
    rows("other", "(1)" * 41),
    rows("other", "(1) (10)"),
    rows("people", "(1 it () 500) (1 it () 10000)"),
    claim("(key people (id)"),
    claim("(key people (id))" + " " * 700),
    claim("(keys people (id))"),
    claim("(key people (nobody))"),
    claim("(key third (a))"),
    claim("(groups people () (sum dept) 0 1)"),
    told(5),
    told(-1),
    drop(5),
    drop(-1),
    breakers(5),
    breakers(-1),
    marks(5),
    marks(-1),
    closed(5),
    closed(-1),
    alone(5, []),
    alone(-1, [0]),
    alone(1, [5]),
    alone(1, [1, 0]),
    alone(1, [1, 1]),
    alone(1, [-1, 0]),
    alone(4, [2]),
    shown("third"),
    shown(""),
    test(0, -1, "third", "(and)"),
    test(0, -1, "people", "(and"),
    test(0, -1, "people", "(and) (and)"),
    test(0, -1, "people", "(gone (one id))"),
    test(0, -1, "people", "(gone (col nobody))"),
    test(5, -1, "people", "(gone (col id))"),
    test(0, -2, "people", "(gone (col id))"),
    test(0, 5, "people", "(gone (one id))"),
]
LOOKS = [check(), breakers(0), breakers(3), told(2), marks(0), marks(1), alone(0, [0, 2]), alone(3, []), closed(1),
         shown("people"), test(0, -1, "people", "(and)"), test(0, 1, "people", "(and)"), size()]


class Laid(unittest.TestCase):
    def test_answers_are_laid_with_their_lengths(self):
        text = "(key t (a))"
        calls = line(table("(table t ((a (up 9))) (1) (1))"), claim(text), check(), breakers(0), told(0), drop(0), drop(0),
                     check(), rows("t", "(2)"))
        self.assertEqual(answers(calls), [2, 1, 2, 1, 0, 2, 1, 1, 4, 1, 2, 0, 1] + row(text) + [1, 0, 1, -3, 1, 0, 1, 1])

    def test_the_calls_of_marks_alone_closed_shown_test_and_size_are_laid_so(self):
        text = "(table t ((a (up 9))) (1) (2) (1))"
        name = [1, 116]
        calls = line(table(text), claim("(key t (a))"), [7, 0], [8, 0, 2, 0, 2], [8, 0, 0], [9, 0], [10] + name,
                     [11, 0, -1] + name + row("(gone (col a))"), [11, 0, 2] + name + row("(same (one a) (two a))"), [12])
        self.assertEqual(answers(calls), [2, 1, 3, 1, 0, 5, 2, 0, 1, 2, 1, 1, 1, 1, 0, 1, 1] + row(text)
                         + [1, 0, 1, 1, 3, 1, 1, 3])

    def test_every_answer_is_a_list_of_whole_numbers(self):
        for call in PROBE + REFUSED + LOOKS + [table(""), rows("", ""), claim("")]:
            for calls in (call, line(*BASE, call)):
                self.assertIs(type(answers(calls)), list)
                self.assertTrue(all(type(number) is int for number in answers(calls)), call)

    def test_a_refusal_is_its_number_alone_and_no_other_answer_has_one_below_0(self):
        for call in PROBE + REFUSED + LOOKS:
            found = run(*BASE, call)[-1]
            self.assertTrue(len(found) == 1 or min(found) >= 0, call)

    def test_texts_and_names_of_6000_bytes_and_of_none(self):
        for many in (0, 6000):
            for call, answer in ((table([32] * many), -1), (claim([32] * many), -1), (rows([97] * many, ""), -3),
                                 (rows("people", [40] * many), -1 if many else 0), (shown([97] * many), -3),
                                 (test(0, -1, [97] * many, ""), -3), (test(0, -1, "people", [32] * many), -1),
                                 (test(0, -1, [97] * many, [40] * many), -3)):
                self.assertEqual(run(table(PEOPLE), call, check()), [[4, 5], [answer], [0]])

    def test_60_calls(self):
        self.assertEqual(answers(check() * 60), [1, 0] * 60)
        self.assertEqual(answers(told(0) * 60), [1, -3] * 60)
        self.assertEqual(answers(size() * 60), [3, 0, 0, 0] * 60)
        self.assertEqual(answers(alone(0, [HUGE, -HUGE]) * 60), [1, -3] * 60)

    def test_each_call_is_gone_past_as_it_is_laid(self):
        several = [marks(0), marks(-HUGE), alone(-1, []), alone(2, [0, 5, 6]), alone(0, [HUGE]), alone(HUGE, [5, 6] * 30),
                   closed(1), closed(HUGE), shown("people"), shown([5, 6]), shown([]), size(),
                   test(0, -1, "people", "(and)"), test(-HUGE, HUGE, "", ""), test(5, 6, [5], [6])]
        for call in several:
            found = run(*BASE, call, check(), call, breakers(2))
            self.assertEqual(found[8], [5, 5, 1, 1, 1, 1])
            self.assertEqual(found[9], found[7])
            self.assertEqual(found[10], [1, 3, 0, 1, 4])
            self.assertEqual(len(found), 11)

    def test_calls_on_a_new_object(self):
        for call, answer in ((check(), [0]), (size(), [0, 0, 0]), (marks(0), [-3]), (alone(0, []), [-3]), (closed(0), [-3]),
                             (shown("t"), [-3]), (shown(""), [-3]), (test(0, -1, "t", "(and)"), [-3]),
                             (test(0, 0, "", ""), [-3])):
            self.assertEqual(run(call), [answer])


class Kept(unittest.TestCase):
    def test_the_base_answers(self):
        self.assertEqual(run(*BASE), [[4, 5], [1, 2], [0], [1], [2], [3], [4]])

    def test_a_refused_call_leaves_the_object_as_it_was(self):
        plain = run(*BASE, *PROBE)[len(BASE):]
        self.assertEqual(plain[0], [5, 5, 1, 1, 1, 1])
        self.assertEqual(plain[1], [2, 5, 7])
        self.assertEqual(plain[14:20], [text_bytes(PEOPLE), text_bytes("(table other ((n (up 10))) (1) (2))"),
                                        [2, 1, 1, 4, 1], [1], [0], [1]])
        self.assertEqual(plain[20:24], [[1, 1], [-6], [5], [6]])
        self.assertEqual(plain[-2:], [[3, 7, 8], text_bytes("(table third ((a (of x y))) (x))")])
        for call in REFUSED:
            found = run(*BASE, call, *PROBE)
            self.assertEqual(len(found[len(BASE)]), 1)
            self.assertLess(found[len(BASE)][0], 0, call)
            self.assertEqual(found[len(BASE) + 1:], plain, call)

    def test_a_fourth_table_and_a_thirteenth_claim_leave_it_too(self):
        full = [*BASE, table("(table third ((a (of x y))) (x))"), *[claim("(key other (n))")] * 7]
        probe = [check(), breakers(0), breakers(11), told(11), rows("third", "(y)"), drop(11), claim("(key other (n))")]
        plain = run(*full, *probe)[len(full):]
        for call in (table("(table fourth ((a (up 9))))"), claim("(each other (or))")):
            found = run(*full, call, *probe)
            self.assertEqual(found[len(full):], [[-6]] + plain)
        found = run(*full, table("(table fourth ((a (up 9))))"), rows("fourth", ""))
        self.assertEqual(found[-2:], [[-6], [-3]])

    def test_what_only_looks_changes_nothing(self):
        plain = run(*BASE, *PROBE)[len(BASE):]
        for call in LOOKS:
            self.assertGreaterEqual(min(run(*BASE, call)[-1]), 0, call)
            self.assertEqual(run(*BASE, call, *PROBE)[len(BASE) + 1:], plain)

    def test_the_list_handed_in_stays_as_it_was(self):
        changed = [drop(1), rows("people", "(1 hr () 0)")]
        for calls in (line(*BASE, *REFUSED), line(*BASE, *changed, *PROBE, *LOOKS), line(*LOOKS, *BASE, *LOOKS)):
            before = copy.deepcopy(calls)
            answers(calls)
            self.assertEqual(calls, before)

    def test_what_is_given_back_is_a_list_of_its_own(self):
        calls = check()
        given = answers(calls)
        given.append(7)
        self.assertEqual(answers(calls), [1, 0])
        self.assertEqual(calls, [5])

    def test_a_second_time_answers_as_the_first(self):
        for calls in (line(*BASE, *REFUSED), line(*BASE, drop(0), rows("people", ""), *PROBE, *LOOKS)):
            first = answers(calls)
            self.assertEqual(answers(check()), [1, 0])
            self.assertEqual(answers(size()), [3, 0, 0, 0])
            self.assertEqual(run(rows("people", "")), [[-3]])
            self.assertEqual(run(shown("people")), [[-3]])
            self.assertEqual(answers(calls), first)


if __name__ == "__main__":
    unittest.main()
