"""The document's examples, in one line of calls and in their order."""

import unittest

from lines import PEOPLE, alone, breakers, check, claim, closed, drop, marks, row, rows, run, shown, size, table, test, told

CLAIMS = [
    "(key people (id))",
    "(each people (less (col pay) 500))",
    "(refers people (boss) people (id))",
    "(fixes people (dept) (boss))",
    "(groups people (dept) (sum pay) 0 800)",
    "(next people (not (less (two pay) (one pay))))",
    "(any people (gone (col boss)))",
]


class Examples(unittest.TestCase):
    def test_the_documents_line(self):
        found = run(
            table(PEOPLE),
            *[claim(text) for text in CLAIMS],
            check(),
            breakers(3),
            breakers(4),
            marks(3),
            alone(3, [1, 2, 3]),
            closed(3),
            closed(2),
            test(1, -1, "people", "(less (col pay) 400)"),
            test(0, 1, "people", "(same (one boss) (two boss))"),
            rows("people", ""),
            check(),
            breakers(6),
            drop(0),
            size(),
        )
        self.assertEqual(found, [
            [4, 5],
            [0], [1], [2], [3], [4], [5], [6],
            [7, 1, 1, 1, 3, 1, 3, 0],
            [3, 2, 0, 1, 2, 0, 4, 2, 2, 3],
            [1, 3, 0, 1, 4],
            [5, 0, 2, 1, 1, 2, 1, 3, 1, 4, 1],
            [1],
            [1],
            [0],
            [1],
            [0],
            [0],
            [7, 0, 0, 0, 0, 0, 0, 1],
            [1, 0],
            [6],
            [1, 6, 0],
        ])

    def test_all_breakers_of_the_examples(self):
        found = run(table(PEOPLE), *[claim(text) for text in CLAIMS], *[breakers(k) for k in range(7)])
        self.assertEqual(found[8:], [
            [1, 2, 1, 4],
            [1, 1, 0],
            [1, 1, 3],
            [3, 2, 0, 1, 2, 0, 4, 2, 2, 3],
            [1, 3, 0, 1, 4],
            [3, 2, 0, 1, 2, 2, 3, 2, 3, 4],
            [0],
        ])

    def test_the_table_is_shown_as_it_was_written(self):
        found = run(table(PEOPLE), shown("people"), rows("people", ""), shown("people"))
        self.assertEqual(found[1], row(PEOPLE)[1:])
        self.assertEqual(found[3], row(PEOPLE[:PEOPLE.index(" (1 it")] + ")")[1:])

    def test_the_claims_are_told_as_they_were_written(self):
        found = run(table(PEOPLE), *[claim(text) for text in CLAIMS], *[told(k) for k in range(7)])
        self.assertEqual(found[8:], [row(text)[1:] for text in CLAIMS])


if __name__ == "__main__":
    unittest.main()
