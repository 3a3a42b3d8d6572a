import itertools
import unittest

from mendsontime.block import has_greatest_distance, mends_block
from mendsontime.cauchy import cauchy_checks, cauchy_rows, points_rows, points_solve
from mendsontime.errors import BadElement, BadNumber, BadShape, NotMade
from mendsontime.field import Field

from helping import (
    SIZES, Numbers, all_lists, bad_numbers, bad_patterns, bad_rows, check_answer, check_call, check_error,
    plain_combination,
)


class Cauchy(unittest.TestCase):
    def test_matrices(self):
        for size in SIZES:
            field = Field(size)
            for letters, checks in itertools.product(range(13), repeat=2):
                good = {"field": field, "letters": letters, "checks": checks}
                if letters + checks > size:
                    check_error(self, NotMade, None, cauchy_checks, **good)
                    check_error(self, NotMade, None, cauchy_rows, **good)
                    continue
                matrix = check_answer(self, cauchy_checks, good)
                self.assertEqual(len(matrix), letters)
                for i, row in enumerate(matrix):
                    self.assertEqual(len(row), checks)
                    for j, entry in enumerate(row):
                        self.assertEqual(field.times(entry, field.minus(i, letters + j)), 1)
                units = [[int(i == j) for j in range(letters)] for i in range(letters)]
                self.assertEqual(check_answer(self, cauchy_rows, good), [a + b for a, b in zip(units, matrix)])

    def test_told_values(self):
        self.assertEqual(cauchy_checks(Field(5), 2, 3), [[2, 3, 1], [4, 2, 3]])
        self.assertEqual(cauchy_checks(Field(4), 2, 2), [[3, 2], [2, 3]])
        self.assertEqual(cauchy_rows(Field(3), 2, 1), [[1, 0, 1], [0, 1, 2]])
        self.assertEqual(cauchy_checks(Field(2), 0, 2), [])
        self.assertEqual(cauchy_checks(Field(2), 2, 0), [[], []])
        self.assertEqual(cauchy_rows(Field(2), 0, 0), [])
        self.assertEqual(cauchy_rows(Field(2), 1, 1), [[1, 1]])

    def test_greatest_distance(self):
        for size in SIZES:
            field = Field(size)
            for letters in range(5):
                for checks in range(5):
                    if letters + checks <= size:
                        rows = cauchy_rows(field, letters, checks)
                        self.assertIs(has_greatest_distance(field, letters + checks, rows), True)

    def test_checks(self):
        for function in (cauchy_checks, cauchy_rows):
            check_call(self, function, {"field": Field(16), "letters": 4, "checks": 12},
                       {"letters": bad_numbers(0, 12), "checks": bad_numbers(0, 12)})
            # Errors of arguments go ahead of NotMade.
            check_error(self, BadNumber, "checks", function, Field(2), 12, 13)
            check_error(self, BadNumber, "letters", function, Field(2), 13, 12)
            check_error(self, NotMade, None, function, Field(2), 3, 0)
            check_error(self, NotMade, None, function, Field(2), 0, 3)


class Points(unittest.TestCase):
    def test_rows(self):
        for size in SIZES:
            field = Field(size)
            for letters, width in itertools.product(range(13), repeat=2):
                good = {"field": field, "letters": letters, "width": width}
                if width > size:
                    check_error(self, NotMade, None, points_rows, **good)
                    continue
                rows = check_answer(self, points_rows, good)
                due = [1] * width
                self.assertEqual(len(rows), letters)
                for row in rows:
                    self.assertEqual(row, due)
                    due = [field.times(power, x) for x, power in enumerate(due)]
        self.assertEqual(points_rows(Field(3), 3, 3), [[1, 1, 1], [0, 1, 2], [0, 1, 1]])
        self.assertEqual(points_rows(Field(4), 2, 0), [[], []])
        self.assertEqual(points_rows(Field(2), 0, 2), [])

    def test_rows_checks(self):
        check_call(self, points_rows, {"field": Field(13), "letters": 3, "width": 12},
                   {"letters": bad_numbers(0, 12), "width": bad_numbers(0, 12)})
        check_error(self, BadNumber, "width", points_rows, Field(2), 0, 13)
        check_error(self, NotMade, None, points_rows, Field(2), 0, 3)
        self.assertEqual(len(points_rows(Field(2), 12, 2)), 12)

    def test_solve(self):
        for size in SIZES:
            field, numbers = Field(size), Numbers(size)
            for width in range(min(size, 12) + 1):
                for letters in range(width + 1):
                    rows, sent = points_rows(field, letters, width), numbers.row(size, letters)
                    signs = plain_combination(field, width, rows, sent)
                    lost = numbers.row(2, width)
                    good = {"field": field, "letters": letters, "signs": signs, "pattern": lost}
                    answer = check_answer(self, points_solve, good)
                    self.assertEqual(answer, sent if lost.count(0) >= letters else None)
                    self.assertEqual(points_solve(field, letters, signs, [0] * width), sent)
                    if letters:
                        self.assertIs(mends_block(field, width, rows, lost), lost.count(0) >= letters)

    def test_only_the_first_heard_signs_are_used(self):
        field = Field(7)
        signs = plain_combination(field, 5, points_rows(field, 2, 5), [3, 6])
        for spoilt in all_lists(7, 2):
            # Place 0 is lost, places 1 and 3 are the first heard ones.
            self.assertEqual(points_solve(field, 2, [spoilt[0], signs[1], spoilt[1], signs[3], spoilt[0]],
                                          [1, 0, 1, 0, 0]), [3, 6])
        self.assertEqual(points_solve(field, 2, [0, 1, 5, 5, 5], [0, 0, 0, 0, 0]), [0, 1])

    def test_zeros_at_the_high_end_and_too_few_places(self):
        field = Field(5)
        self.assertEqual(points_solve(field, 3, [0, 0, 0, 1], [0, 0, 0, 0]), [0, 0, 0])
        self.assertEqual(points_solve(field, 3, [2, 2, 2], [0, 0, 0]), [2, 0, 0])
        self.assertIsNone(points_solve(field, 3, [2, 2, 2], [0, 1, 0]))
        self.assertIsNone(points_solve(field, 1, [], []))
        self.assertIsNone(points_solve(field, 12, [1], [0]))
        self.assertEqual(points_solve(field, 0, [], []), [])
        self.assertEqual(points_solve(field, 0, [4, 1], [1, 1]), [])

    def test_solve_checks(self):
        for signs, pattern in (([1, 0, 2], [0, 1, 0]), ([2], [0])):
            bad = {"letters": bad_numbers(0, 12), "signs": bad_rows(3, signs, most=12),
                   "pattern": bad_patterns(pattern, exact=True)}
            check_call(self, points_solve, {"field": Field(3), "letters": 1, "signs": signs, "pattern": pattern}, bad)
        check_error(self, BadShape, "signs", points_solve, Field(16), 1, [0] * 13, [0] * 13)
        check_error(self, BadShape, "pattern", points_solve, Field(16), 1, [0] * 12, [0] * 11)

    def test_solve_not_made(self):
        for letters in (0, 1, 4, 12):
            check_error(self, NotMade, None, points_solve, Field(3), letters, [0] * 4, [0] * 4)
            check_error(self, NotMade, None, points_solve, Field(3), letters, [0] * 4, [1] * 4)
            # Errors of arguments go ahead of NotMade.
            check_error(self, BadElement, "pattern", points_solve, Field(3), letters, [0] * 4, [2] * 4)
            check_error(self, BadShape, "pattern", points_solve, Field(3), letters, [0] * 4, [0] * 3)
            check_error(self, BadElement, "signs", points_solve, Field(3), letters, [3] * 4, None)


if __name__ == "__main__":
    unittest.main()
