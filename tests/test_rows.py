import unittest

from mendsontime.errors import BadElement, BadNumber, BadShape
from mendsontime.field import Field
from mendsontime.rows import (
    beside, combine, product_rows, product_sum, row_plus, row_times, turned, unit_rows, zero_rows,
)

from helping import (
    NO_LISTS, SIZES, Numbers, bad_elements, bad_matrices, bad_numbers, bad_rows, check_answer, check_call, check_error,
    plain_combination, plain_sum,
)


class PlainRows(unittest.TestCase):
    def test_zero_rows(self):
        for high, width in ((0, 0), (0, 3), (3, 0), (2, 3), (1, 1), (200, 200), (200, 0), (0, 200)):
            rows = check_call(self, zero_rows, {"high": high, "width": width},
                              {"high": bad_numbers(0, 200), "width": bad_numbers(0, 200)})
            self.assertEqual(rows, [[0 for _ in range(width)] for _ in range(high)])

    def test_unit_rows(self):
        for size in (0, 1, 2, 5, 200):
            rows = check_call(self, unit_rows, {"size": size}, {"size": bad_numbers(0, 200)})
            self.assertEqual(rows, [[int(i == j) for j in range(size)] for i in range(size)])
        self.assertEqual(unit_rows(3), [[1, 0, 0], [0, 1, 0], [0, 0, 1]])

    def test_sums_and_products_over_every_field(self):
        for size in SIZES:
            field = Field(size)
            numbers = Numbers(size)
            for length in (0, 1, 2, 30, 200):
                a, b = numbers.row(size, length), numbers.row(size, length)
                self.assertEqual(check_answer(self, row_plus, {"field": field, "a": a, "b": b}),
                                 [field.plus(x, y) for x, y in zip(a, b)])
                self.assertEqual(check_answer(self, product_sum, {"field": field, "a": a, "b": b}),
                                 plain_sum(field, a, b))
                for factor in range(size):
                    self.assertEqual(check_answer(self, row_times, {"field": field, "factor": factor, "a": a}),
                                     [field.times(factor, x) for x in a])

    def test_told_values(self):
        field = Field(4)
        self.assertEqual(row_plus(field, [1, 2, 3], [3, 3, 3]), [2, 1, 0])
        self.assertEqual(row_times(field, 2, [0, 1, 2, 3]), [0, 2, 3, 1])
        self.assertEqual(product_sum(field, [1, 2, 3], [3, 2, 1]), 3)
        self.assertEqual(product_sum(field, [], []), 0)

    def test_the_same_list_twice(self):
        row = [1, 2, 0]
        self.assertEqual(row_plus(Field(3), row, row), [2, 1, 0])
        self.assertEqual(product_sum(Field(3), row, row), 2)
        self.assertEqual(row, [1, 2, 0])

    def test_checks(self):
        field = Field(3)
        one, other = [1, 0, 2], [2, 2, 1]
        for function in (row_plus, product_sum):
            check_call(self, function, {"field": field, "a": one, "b": other},
                       {"a": bad_rows(3, one, most=200), "b": bad_rows(3, other)})
            check_error(self, BadShape, "a", function, field, [0] * 201, [0] * 201)
            check_error(self, BadShape, "b", function, field, [0] * 200, [0] * 199)
            check_error(self, BadShape, "b", function, field, [], [0])
            check_error(self, BadElement, "a", function, field, [0] * 199 + [3], None)
        check_call(self, row_times, {"field": field, "factor": 2, "a": one},
                   {"factor": bad_elements(3), "a": bad_rows(3, one, most=200)})
        check_error(self, BadShape, "a", row_times, field, 0, [0] * 201)


class Combinations(unittest.TestCase):
    def test_combine(self):
        for size in SIZES:
            field = Field(size)
            numbers = Numbers(size)
            for high, width in ((0, 0), (0, 4), (3, 0), (1, 1), (4, 3), (2, 7)):
                rows, factors = numbers.matrix(size, high, width), numbers.row(size, high)
                good = {"field": field, "width": width, "rows": rows, "factors": factors}
                self.assertEqual(check_answer(self, combine, good), plain_combination(field, width, rows, factors))
        self.assertEqual(combine(Field(2), 3, [], []), [0, 0, 0])
        self.assertEqual(combine(Field(5), 2, [[1, 2], [3, 4]], [2, 4]), [4, 0])

    def test_combine_checks(self):
        rows, factors = [[1, 0, 2], [2, 2, 0]], [1, 2]
        check_call(self, combine, {"field": Field(3), "width": 3, "rows": rows, "factors": factors},
                   {"width": bad_numbers(0, 200), "rows": bad_matrices(3, rows, most=200),
                    "factors": bad_rows(3, factors)})
        check_error(self, BadShape, "factors", combine, Field(3), 3, [], [1])
        check_error(self, BadShape, "factors", combine, Field(3), 3, [], ())
        check_error(self, BadShape, "rows", combine, Field(3), 2, rows, factors)
        self.assertEqual(combine(Field(2), 200, [[1] * 200] * 200, [1] * 200), [0] * 200)

    def test_product_rows(self):
        for size in SIZES:
            field = Field(size)
            numbers = Numbers(size)
            for high, inner, width in ((0, 0, 0), (0, 2, 3), (2, 0, 3), (2, 3, 0), (1, 1, 1), (3, 2, 4), (0, 0, 3)):
                a, b = numbers.matrix(size, high, inner), numbers.matrix(size, inner, width)
                good = {"field": field, "inner": inner, "width": width, "a": a, "b": b}
                self.assertEqual(check_answer(self, product_rows, good),
                                 [plain_combination(field, width, b, row) for row in a])
        self.assertEqual(product_rows(Field(7), 2, 2, [[1, 2], [3, 4]], [[5, 6], [0, 1]]), [[5, 1], [1, 1]])
        self.assertEqual(product_rows(Field(2), 0, 2, [[], []], []), [[0, 0], [0, 0]])

    def test_product_rows_checks(self):
        a, b = [[1, 2], [0, 1], [2, 2]], [[1, 0, 2, 1], [2, 2, 0, 0]]
        check_call(self, product_rows, {"field": Field(3), "inner": 2, "width": 4, "a": a, "b": b},
                   {"inner": bad_numbers(0, 200), "width": bad_numbers(0, 200),
                    "a": bad_matrices(3, a, most=200), "b": bad_matrices(3, b)})
        check_error(self, BadShape, "b", product_rows, Field(3), 2, 4, [], [])
        self.assertEqual(len(product_rows(Field(2), 0, 0, [[]] * 200, [])), 200)


class Shapes(unittest.TestCase):
    def test_turned(self):
        self.assertEqual(check_answer(self, turned, {"width": 3, "rows": [[1, 2, 3], [4, 5, 6]]}),
                         [[1, 4], [2, 5], [3, 6]])
        self.assertEqual(check_answer(self, turned, {"width": 0, "rows": [[], []]}), [])
        self.assertEqual(check_answer(self, turned, {"width": 2, "rows": []}), [[], []])
        self.assertEqual(check_answer(self, turned, {"width": 0, "rows": []}), [])
        self.assertEqual(check_answer(self, turned, {"width": 200, "rows": [[0] * 200] * 200}), [[0] * 200] * 200)

    def test_turned_hands_entries_on(self):
        held = [1]
        answer = turned(2, [[held, None], ["a", (2,)]])
        self.assertEqual(answer, [[held, "a"], [None, (2,)]])
        self.assertIs(answer[0][0], held)

    def test_turned_checks(self):
        rows = [[1, 2], [3, 4]]
        bad = [(value, BadShape) for value in NO_LISTS + (tuple(rows), [[1, 2]] * 201, [[1], [2]], [[1, 2], [3]],
                                                          [[1, 2], (3, 4)], [[1, 2], None], [[1, 2], "ab"],
                                                          [[1, 2, 3], [4, 5, 6]], [[], []])]
        check_call(self, turned, {"width": 2, "rows": rows}, {"width": bad_numbers(0, 200), "rows": bad})
        self.assertEqual(turned(1, [[7]] * 200), [[7] * 200])

    def test_beside(self):
        self.assertEqual(check_answer(self, beside, {"a": [[1], [2]], "b": [[3], [4]]}), [[1, 3], [2, 4]])
        self.assertEqual(check_answer(self, beside, {"a": [], "b": []}), [])
        self.assertEqual(check_answer(self, beside, {"a": [[], [5]], "b": [[1, 2], []]}), [[1, 2], [5]])
        self.assertEqual(check_answer(self, beside, {"a": [[], []], "b": [[], []]}), [[], []])
        self.assertEqual(len(check_answer(self, beside, {"a": [[0]] * 200, "b": [[1] * 300] * 200})[0]), 301)

    def test_beside_hands_entries_on(self):
        held, row = [1], [[2]]
        answer = beside([[held], row], [[None], ["b"]])
        self.assertIs(answer[0][0], held)
        self.assertEqual(answer, [[[1], None], [[2], "b"]])
        self.assertEqual(row, [[2]])

    def test_beside_checks(self):
        a, b = [[1], [2]], [[3], [4]]
        wrong = [(value, BadShape) for value in NO_LISTS + (([1], [2]), [[1], (2,)], [[1], None], [1, [2]], ["a", "b"])]
        check_call(self, beside, {"a": a, "b": b},
                   {"a": wrong + [([[1]] * 201, BadShape)],
                    "b": wrong + [([[3]], BadShape), ([[3], [4], [5]], BadShape), ([], BadShape)]})
        check_error(self, BadShape, "b", beside, [], [[]])
        check_error(self, BadNumber, "width", turned, True, None)


if __name__ == "__main__":
    unittest.main()
