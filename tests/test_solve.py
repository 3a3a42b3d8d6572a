import itertools
import unittest

from mendsontime.errors import BadElement, BadNumber, BadShape
from mendsontime.field import Field
from mendsontime.solve import (
    barrier_for, base_places, dependence, factors_for, is_barrier, is_dependence, is_factors, null_rows, pivots,
    rank_of, reduced, solve_or_bar,
)

from helping import (
    ODD_PAPERS, SIZES, Numbers, all_lists, bad_matrices, bad_numbers, bad_rows, check_answer, check_call, check_error,
    check_papers, near_papers, plain_combination, plain_sum, some_matrices, span,
)

OF_ROWS = (reduced, pivots, rank_of, base_places, null_rows, dependence)
OF_GOAL = (factors_for, barrier_for, solve_or_bar)


def plain_base_places(field, width, rows):
    """The rows that are no combination of the rows ahead of them, by all combinations."""
    return [at for at, row in enumerate(rows) if tuple(row) not in span(field, width, rows[:at])]


def plain_factors(field, width, rows, goal, base):
    """All lists of factors of the goal with 0 at every row that is no base row."""
    choices = [range(field.size) if at in base else (0,) for at in range(len(rows))]
    return [list(factors) for factors in itertools.product(*choices)
            if plain_combination(field, width, rows, factors) == goal]


def plain_barrier(field, width, found, places, goal):
    """The barrier of the document's words, from the reduced form and the pivots."""
    rest = list(goal)
    for row, place in zip(found, places):
        rest = [field.minus(x, field.times(goal[place], y)) for x, y in zip(rest, row)]
    first = next((at for at, x in enumerate(rest) if x), None)
    if first is None:
        return None
    return [row for row in all_lists(field.size, width)
            if row[first] == 1 and all(row[at] == 0 for at in range(width) if at not in places and at != first)
            and all(plain_sum(field, row, other) == 0 for other in found)]


class EverySmallMatrix(unittest.TestCase):
    def test_reduced_form(self):
        for field, width, rows in some_matrices():
            found = reduced(field, width, rows)
            places = pivots(field, width, rows)
            self.assertEqual(span(field, width, found), span(field, width, rows))
            self.assertEqual(places, sorted(set(places)))
            self.assertEqual(len(places), len(found))
            for row, place in zip(found, places):
                self.assertEqual(row[:place + 1], [0] * place + [1])
                self.assertEqual([other[place] for other in found], [int(other is row) for other in found])

    def test_rank_and_base_places(self):
        for field, width, rows in some_matrices():
            base = plain_base_places(field, width, rows)
            self.assertEqual(base_places(field, width, rows), base)
            self.assertEqual(rank_of(field, width, rows), len(base))
            self.assertEqual(len(reduced(field, width, rows)), len(base))

    def test_null_rows(self):
        for field, width, rows in some_matrices():
            places = pivots(field, width, rows)
            free = [place for place in range(width) if place not in places]
            found = null_rows(field, width, rows)
            self.assertEqual(len(found), len(free))
            for row, place in zip(found, free):
                self.assertEqual([row[at] for at in free], [int(at == place) for at in free])
                self.assertTrue(all(plain_sum(field, row, other) == 0 for other in rows))

    def test_factors_and_barriers(self):
        for field, width, rows in some_matrices():
            base = plain_base_places(field, width, rows)
            found, places = reduced(field, width, rows), pivots(field, width, rows)
            reach = span(field, width, rows)
            for goal in all_lists(field.size, width):
                factors = factors_for(field, width, rows, goal)
                barrier = barrier_for(field, width, rows, goal)
                either = solve_or_bar(field, width, rows, goal)
                if tuple(goal) in reach:
                    self.assertEqual([factors], plain_factors(field, width, rows, goal, base))
                    self.assertIsNone(barrier)
                    self.assertEqual(either, ("factors", factors))
                    self.assertIs(is_factors(field, width, rows, goal, factors), True)
                else:
                    self.assertIsNone(factors)
                    self.assertEqual([barrier], plain_barrier(field, width, found, places, goal))
                    self.assertEqual(either, ("barrier", barrier))
                    self.assertIs(is_barrier(field, width, rows, goal, barrier), True)

    def test_dependence(self):
        for field, width, rows in some_matrices():
            base = plain_base_places(field, width, rows)
            found = dependence(field, width, rows)
            if len(base) == len(rows):
                self.assertIsNone(found)
                continue
            first = next(at for at in range(len(rows)) if at not in base)
            self.assertEqual(found[first:], [1] + [0] * (len(rows) - first - 1))
            self.assertEqual(plain_combination(field, width, rows, found), [0] * width)
            self.assertIs(is_dependence(field, width, rows, found), True)

    def test_judges_by_the_plain_meaning(self):
        field = Field(3)
        for rows in ([[1, 2], [2, 1], [0, 1]], [[0, 0], [1, 1]], [[1, 0], [0, 1]], [[0, 0]], []):
            for paper in all_lists(3, len(rows)):
                total = plain_combination(field, 2, rows, paper)
                self.assertIs(is_dependence(field, 2, rows, paper), any(paper) and total == [0, 0])
                for goal in all_lists(3, 2):
                    self.assertIs(is_factors(field, 2, rows, goal, paper), total == goal)
            for paper in all_lists(3, 2):
                null = all(plain_sum(field, paper, row) == 0 for row in rows)
                for goal in all_lists(3, 2):
                    self.assertIs(is_barrier(field, 2, rows, goal, paper), null and plain_sum(field, paper, goal) != 0)


class ToldValues(unittest.TestCase):
    def test_over_the_field_of_5(self):
        field, rows = Field(5), [[0, 2, 4, 1], [0, 1, 2, 3], [3, 0, 1, 0]]
        self.assertEqual(reduced(field, 4, rows), [[1, 0, 2, 0], [0, 1, 2, 3]])
        self.assertEqual(pivots(field, 4, rows), [0, 1])
        self.assertEqual(rank_of(field, 4, rows), 2)
        self.assertEqual(base_places(field, 4, rows), [0, 2])
        self.assertEqual(null_rows(field, 4, rows), [[3, 3, 1, 0], [0, 2, 0, 1]])
        self.assertEqual(factors_for(field, 4, rows, [1, 1, 4, 3]), [3, 0, 2])
        self.assertEqual(barrier_for(field, 4, rows, [1, 1, 4, 4]), [0, 2, 0, 1])
        self.assertEqual(barrier_for(field, 4, rows, [1, 1, 0, 4]), [3, 3, 1, 0])
        self.assertEqual(dependence(field, 4, rows), [2, 1, 0])

    def test_the_example(self):
        self.assertEqual(dependence(Field(3), 1, [[1], [1]]), [2, 1])

    def test_an_all_zero_row_is_no_base_row(self):
        self.assertEqual(base_places(Field(2), 2, [[0, 0], [1, 0]]), [1])
        self.assertEqual(dependence(Field(2), 2, [[0, 0], [1, 0]]), [1, 0])
        self.assertEqual(dependence(Field(2), 2, [[1, 0], [0, 0]]), [0, 1])
        self.assertEqual(factors_for(Field(2), 2, [[0, 0], [1, 0]], [1, 0]), [0, 1])

    def test_without_rows(self):
        for width in (0, 1, 3, 200):
            field = Field(4)
            self.assertEqual(reduced(field, width, []), [])
            self.assertEqual(pivots(field, width, []), [])
            self.assertEqual(rank_of(field, width, []), 0)
            self.assertEqual(base_places(field, width, []), [])
            self.assertEqual(null_rows(field, width, []), [[int(i == j) for j in range(width)] for i in range(width)])
            self.assertEqual(factors_for(field, width, [], [0] * width), [])
            self.assertIsNone(barrier_for(field, width, [], [0] * width))
            self.assertIsNone(dependence(field, width, []))
            self.assertIs(is_factors(field, width, [], [0] * width, []), True)
            self.assertIs(is_dependence(field, width, [], []), False)
            if width:
                goal = [0] * (width - 1) + [2]
                self.assertIsNone(factors_for(field, width, [], goal))
                self.assertEqual(barrier_for(field, width, [], goal), [0] * (width - 1) + [1])
                self.assertEqual(solve_or_bar(field, width, [], goal), ("barrier", [0] * (width - 1) + [1]))
                self.assertIs(is_factors(field, width, [], goal, []), False)

    def test_of_width_0(self):
        for high in (1, 2, 200):
            field, rows = Field(3), [[]] * high
            self.assertEqual(reduced(field, 0, rows), [])
            self.assertEqual(base_places(field, 0, rows), [])
            self.assertEqual(null_rows(field, 0, rows), [])
            self.assertEqual(factors_for(field, 0, rows, []), [0] * high)
            self.assertIsNone(barrier_for(field, 0, rows, []))
            self.assertEqual(dependence(field, 0, rows), [1] + [0] * (high - 1))
            self.assertIs(is_barrier(field, 0, rows, [], []), False)
            self.assertIs(is_factors(field, 0, rows, [], [2] * high), True)
            self.assertIs(is_dependence(field, 0, rows, [2] * high), True)
            self.assertIs(is_dependence(field, 0, rows, [0] * high), False)

    def test_all_zero_rows(self):
        for size in SIZES:
            rows = [[0, 0, 0], [0, 0, 0]]
            self.assertEqual(reduced(Field(size), 3, rows), [])
            self.assertEqual(rank_of(Field(size), 3, rows), 0)
            self.assertEqual(base_places(Field(size), 3, rows), [])
            self.assertEqual(factors_for(Field(size), 3, rows, [0, 0, 0]), [0, 0])
            self.assertEqual(barrier_for(Field(size), 3, rows, [0, size - 1, 1]), [0, 1, 0])


class EveryField(unittest.TestCase):
    def check_matrix_of(self, field, width, rows, numbers):
        found, places = reduced(field, width, rows), pivots(field, width, rows)
        base = base_places(field, width, rows)
        self.assertEqual(len(found), len(base))
        for row, place in zip(found, places):
            self.assertEqual(row[place], 1)
            self.assertFalse(any(row[:place]))
            self.assertEqual(sum(1 for other in found if other[place]), 1)
        weights = numbers.row(field.size, len(rows))
        goal = plain_combination(field, width, rows, weights)
        factors = factors_for(field, width, rows, goal)
        self.assertEqual(plain_combination(field, width, rows, factors), goal)
        self.assertFalse(any(factors[at] for at in range(len(rows)) if at not in base))
        self.assertIs(is_factors(field, width, rows, goal, weights), True)
        for row in null_rows(field, width, rows):
            self.assertFalse(any(plain_sum(field, row, other) for other in rows))
        other_goal = numbers.row(field.size, width)
        word, paper = solve_or_bar(field, width, rows, other_goal)
        judge = {"factors": is_factors, "barrier": is_barrier}[word]
        self.assertIs(judge(field, width, rows, other_goal, paper), True)

    def test_some_matrices(self):
        for size in SIZES:
            numbers = Numbers(size)
            for high, width in ((1, 1), (3, 5), (5, 3), (6, 6), (9, 7), (1, 9), (9, 1)):
                rows = numbers.matrix(size, high, width)
                rows[high // 2] = plain_combination(Field(size), width, rows[:high // 2], [1] * (high // 2))
                self.check_matrix_of(Field(size), width, rows, numbers)

    def test_up_to_the_bounds(self):
        for size, high, width in ((16, 200, 200), (2, 200, 200), (9, 200, 3), (13, 3, 200)):
            numbers = Numbers(size + high)
            self.check_matrix_of(Field(size), width, numbers.matrix(size, high, width), numbers)

    def test_a_dependence_among_200_rows(self):
        field, numbers = Field(7), Numbers(5)
        rows = [[0] * at + [1] + numbers.row(7, 199 - at) for at in range(199)]
        rows.append(plain_combination(field, 200, rows, numbers.row(7, 199)))
        found = dependence(field, 200, rows)
        self.assertEqual(found[199], 1)
        self.assertEqual(plain_combination(field, 200, rows, found), [0] * 200)
        self.assertIs(is_dependence(field, 200, rows, found), True)


class Checks(unittest.TestCase):
    rows = [[1, 0, 2], [2, 0, 1], [0, 1, 1]]
    bad = {"width": bad_numbers(0, 200), "rows": bad_matrices(3, rows, most=200), "goal": bad_rows(3, [1, 1, 0])}

    def test_functions_of_rows(self):
        for function in OF_ROWS:
            check_call(self, function, {"field": Field(3), "width": 3, "rows": self.rows}, self.bad)
            check_answer(self, function, {"field": Field(3), "width": 3, "rows": []})
            check_answer(self, function, {"field": Field(3), "width": 0, "rows": [[], []]})
            check_answer(self, function, {"field": Field(3), "width": 3, "rows": [[1, 0, 2]] * 3})
            check_error(self, BadShape, "rows", function, Field(3), 2, self.rows)
            check_error(self, BadNumber, "width", function, Field(3), 201, [])

    def test_functions_of_a_goal(self):
        for function in OF_GOAL:
            for goal in ([1, 1, 0], [1, 1, 2], [0, 0, 0]):
                good = {"field": Field(3), "width": 3, "rows": self.rows, "goal": goal}
                check_call(self, function, good, {**self.bad, "goal": bad_rows(3, goal)})
            check_error(self, BadShape, "goal", function, Field(3), 0, [[]], [0])
            check_error(self, BadElement, "goal", function, Field(3), 1, [[1]], [3])

    def test_judges(self):
        good = {"field": Field(3), "width": 3, "rows": self.rows, "goal": [1, 1, 0], "paper": [1, 0, 1]}
        for paper in ([1, 0, 1], None, (), "x"):
            for function in (is_factors, is_barrier):
                check_call(self, function, {**good, "paper": paper}, self.bad)
            less = {"field": Field(3), "width": 3, "rows": self.rows, "paper": paper}
            check_call(self, is_dependence, less, self.bad)


class Papers(unittest.TestCase):
    def test_factors(self):
        rows, goal = [[1, 0], [2, 0], [0, 1]], [1, 2]
        right = [[1, 0, 2], [0, 2, 2], [2, 1, 2]]
        wrong = [paper for near in right for paper in near_papers(3, near)] + [[0, 0, 0], [1, 1, 2], [2, 0, 1], None]
        check_papers(self, is_factors, (Field(3), 2, rows, goal), right, wrong)

    def test_factors_without_rows(self):
        check_papers(self, is_factors, (Field(3), 2, [], [0, 0]), [[]], [[0], ()])
        check_papers(self, is_factors, (Field(3), 2, [], [0, 1]), [], [[], [0], [0, 1]])

    def test_barriers(self):
        rows, goal = [[1, 0, 1], [2, 0, 2]], [0, 2, 1]
        right = [[0, 1, 0], [0, 2, 0], [1, 0, 2], [1, 1, 2], [2, 0, 1], [2, 2, 1]]
        wrong = [paper for near in right for paper in near_papers(3, near)]
        # The first two are null rows, but their sums of products with the goal are 0.
        wrong += [[1, 2, 2], [2, 1, 1], [0, 0, 0], [1, 1, 1], [0, 1, 2]]
        check_papers(self, is_barrier, (Field(3), 3, rows, goal), right, wrong)

    def test_dependences(self):
        rows = [[1, 0], [2, 0], [0, 0]]
        right = [[1, 1, 0], [2, 2, 0], [0, 0, 1], [1, 1, 2]]
        wrong = [paper for near in right for paper in near_papers(3, near)] + [[0, 0, 0], [1, 0, 0], [1, 2, 0]]
        check_papers(self, is_dependence, (Field(3), 2, rows), right, wrong)

    def test_a_bool_is_no_element(self):
        self.assertIs(is_factors(Field(2), 1, [[1]], [1], [1]), True)
        self.assertIs(is_factors(Field(2), 1, [[1]], [1], [True]), False)
        self.assertIs(is_barrier(Field(2), 1, [], [1], [1]), True)
        self.assertIs(is_barrier(Field(2), 1, [], [1], [True]), False)
        self.assertIs(is_dependence(Field(2), 1, [[0]], [1]), True)
        self.assertIs(is_dependence(Field(2), 1, [[0]], [True]), False)

    def test_papers_of_every_kind(self):
        for paper in ODD_PAPERS:
            self.assertIs(is_factors(Field(2), 3, [[1, 0, 1]] * 4, [1, 0, 1], paper), False)
            self.assertIs(is_barrier(Field(2), 3, [[1, 0, 1]] * 4, [1, 0, 0], paper), False)
            self.assertIs(is_dependence(Field(2), 3, [[1, 0, 1]] * 4, paper), False)


if __name__ == "__main__":
    unittest.main()
