import unittest

from mendsontime import errors
from mendsontime.errors import (
    BadElement, BadNumber, BadShape, BadText, Clash, Ended, MendError, NoInverse, NotMade, TooLarge, check_element,
    check_heard, check_matrix, check_number, check_pattern, check_row,
)

from helping import (
    NO_LISTS, bad_elements, bad_matrices, bad_numbers, bad_patterns, bad_rows, check_answer, check_call, check_error,
)


class ErrorClasses(unittest.TestCase):
    def test_bases(self):
        self.assertEqual(MendError.__bases__, (ValueError,))
        for error in (BadNumber, BadShape, BadElement, BadText, TooLarge, Clash, NoInverse, NotMade, Ended):
            self.assertEqual(error.__bases__, (MendError,))

    def test_attributes(self):
        for error in (BadNumber, BadShape, BadElement):
            self.assertEqual(error("size").argument, "size")
            self.assertEqual(error(argument="size").argument, "size")
        self.assertEqual(BadText(3).line, 3)
        self.assertEqual(BadText(line=3).line, 3)
        self.assertEqual(TooLarge(64).bound, 64)
        self.assertEqual(TooLarge(bound=64).bound, 64)
        self.assertEqual(Clash(0).moment, 0)
        self.assertEqual(Clash(moment=7).moment, 7)

    def test_made_without_arguments(self):
        for error in (NoInverse, NotMade, Ended):
            with self.assertRaises(MendError):
                raise error()

    def test_attribute_is_kept_as_passed(self):
        held = ["any"]
        for error in (BadNumber, BadShape, BadElement):
            self.assertIs(error(held).argument, held)

    def test_all_names_stand_in_the_file(self):
        for name in ("MendError", "BadNumber", "BadShape", "BadElement", "BadText", "TooLarge", "Clash", "NoInverse",
                     "NotMade", "Ended"):
            self.assertEqual(getattr(errors, name).__module__, "mendsontime.errors")


class Checks(unittest.TestCase):
    def test_number(self):
        for low, high in ((0, 3), (-300, 300), (2, 2), (1, 1)):
            for value in range(low, high + 1):
                self.assertEqual(check_number(value, low, high, "value"), value)
            check_call(self, check_number, {"value": low, "low": low, "high": high, "argument": "value"},
                       {"value": bad_numbers(low, high)})

    def test_number_of_an_empty_span(self):
        for value in (0, -1, 1, None):
            check_error(self, BadNumber, "beat", check_number, value, 0, -1, "beat")

    def test_the_argument_is_the_text_that_is_passed(self):
        check_error(self, BadNumber, "some word", check_number, None, 0, 1, "some word")
        check_error(self, BadElement, "some word", check_element, 2, 2, "some word")
        check_error(self, BadShape, "some word", check_row, (), 2, 0, "some word")
        check_error(self, BadElement, "some word", check_row, [2], 2, 1, "some word")
        check_error(self, BadShape, "some word", check_matrix, None, 2, 0, 0, "some word")
        check_error(self, BadShape, "some word", check_pattern, None, 2, "some word")
        check_error(self, BadShape, "some word", check_heard, None, 2, 2, 2, "some word")

    def test_element(self):
        for size in (2, 9, 16):
            for value in range(size):
                self.assertEqual(check_element(value, size, "value"), value)
            check_call(self, check_element, {"value": size - 1, "size": size, "argument": "value"},
                       {"value": bad_elements(size)})

    def test_row(self):
        for size, row in ((2, []), (2, [1]), (3, [0, 2, 1]), (16, [15, 0])):
            good = {"row": row, "size": size, "length": len(row), "argument": "row"}
            self.assertEqual(check_call(self, check_row, good, {"row": bad_rows(size, row)}), row)

    def test_matrix(self):
        for size, rows in ((2, [[1]]), (3, [[0, 2], [1, 1]]), (16, [[15, 0, 3], [0, 0, 0], [1, 2, 3]]), (2, [[], []])):
            good = {"rows": rows, "size": size, "high": len(rows), "width": len(rows[0]), "argument": "rows"}
            bad = {"rows": bad_matrices(size, rows)}
            self.assertEqual(check_call(self, check_matrix, good, bad), rows)
            self.assertEqual(check_call(self, check_matrix, good, bad, {"exact": True}), rows)

    def test_matrix_up_to(self):
        rows = [[0, 2], [1, 1]]
        for most in (2, 3, 7):
            good = {"rows": rows, "size": 3, "high": most, "width": 2, "argument": "rows"}
            bad = {"rows": bad_matrices(3, rows, most=most)}
            self.assertEqual(check_call(self, check_matrix, good, bad, {"exact": False}), rows)
        self.assertEqual(check_matrix([], 3, 2, 5, "rows", exact=False), [])
        self.assertEqual(check_matrix([], 3, 0, 5, "rows"), [])
        check_error(self, BadShape, "rows", check_matrix, [], 3, 1, 5, "rows")

    def test_pattern_up_to(self):
        pattern = [0, 1, 1, 0]
        for most in (4, 5, 800):
            good = {"pattern": pattern, "most": most, "argument": "pattern"}
            bad = {"pattern": bad_patterns(pattern, exact=False) + [([0] * (most + 1), BadShape),
                                                                    ([2] * (most + 1), BadShape)]}
            self.assertEqual(check_call(self, check_pattern, good, bad), pattern)
            self.assertEqual(check_call(self, check_pattern, good, bad, {"exact": False}), pattern)
        self.assertEqual(check_pattern([], 0, "pattern"), [])

    def test_pattern_of(self):
        pattern = [0, 1, 1, 0]
        good = {"pattern": pattern, "most": 4, "argument": "pattern"}
        bad = {"pattern": bad_patterns(pattern, exact=True)}
        self.assertEqual(check_call(self, check_pattern, good, bad, {"exact": True}), pattern)
        check_error(self, BadShape, "pattern", check_pattern, [], 1, "pattern", exact=True)

    def test_heard(self):
        heard = [None, [0, 2], None, [1, 1]]
        for most in (4, 60):
            good = {"heard": heard, "size": 3, "most": most, "width": 2, "argument": "heard"}
            wrong = [value for value in NO_LISTS] + [[None] * (most + 1), tuple(heard)]
            wrong += [[None, row] for row in ((0, 2), [0], [0, 2, 1], [], 0, "ab", False, {})]
            # Every shape goes ahead of every entry.
            wrong += [[[3, 3], None, [0]], [[None, 0], ()], [[0, 3]] * (most + 1)]
            bad = [(value, BadShape) for value in wrong]
            bad += [([None, [0, entry], [0, 0]], error) for entry, error in bad_elements(3)]
            self.assertEqual(check_call(self, check_heard, good, {"heard": bad}), heard)
        self.assertEqual(check_heard([], 3, 0, 2, "heard"), [])
        self.assertEqual(check_heard([[], None], 3, 2, 0, "heard"), [[], None])

    def test_a_bool_is_no_flag_element_or_number(self):
        for value in (True, False):
            check_error(self, BadElement, "p", check_pattern, [0, value], 2, "p")
            check_error(self, BadElement, "p", check_row, [0, value], 2, 2, "p")
            check_error(self, BadElement, "p", check_heard, [[0, value]], 2, 2, 2, "p")
            check_error(self, BadElement, "p", check_matrix, [[0, value]], 2, 1, 2, "p")

    def test_rows_of_an_answer_are_new_also_if_one_row_stands_twice(self):
        row = [0, 1]
        good = {"rows": [row, row], "size": 2, "high": 2, "width": 2, "argument": "rows"}
        self.assertEqual(check_answer(self, check_matrix, good), [[0, 1], [0, 1]])
        good = {"heard": [row, row], "size": 2, "most": 2, "width": 2, "argument": "heard"}
        self.assertEqual(check_answer(self, check_heard, good), [[0, 1], [0, 1]])


if __name__ == "__main__":
    unittest.main()
