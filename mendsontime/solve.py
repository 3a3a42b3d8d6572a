"""Solving of rows: reduced forms, factors, barriers, and systems of equations."""

from mendsontime.errors import check_element, check_matrix, check_number, check_row, is_row
from mendsontime.linear import (
    columns_of, combine_rows, find_factors, first_place, free_places, null_row_against, null_row_at, reduced_pairs,
    remainder_of, sum_of_products, with_equation,
)

MOST = 200


def check_rows(field, width, rows):
    """Return a copy of the matrix after the checks of width and rows."""
    check_number(width, 0, MOST, "width")
    return check_matrix(rows, field.size, MOST, width, "rows", exact=False)


def reduced(field, width, rows):
    """The reduced form."""
    return [row for _, row in reduced_pairs(field, check_rows(field, width, rows))]


def pivots(field, width, rows):
    """The pivots of the reduced form."""
    return [place for place, _ in reduced_pairs(field, check_rows(field, width, rows))]


def rank_of(field, width, rows):
    """The number of base rows."""
    return len(reduced_pairs(field, check_rows(field, width, rows)))


def base_places(field, width, rows):
    """The indexes of the rows that do not depend on the earlier rows."""
    # A row depends on the earlier rows exactly if its column of the turned matrix has no pivot.
    columns = columns_of(width, check_rows(field, width, rows))
    return [place for place, _ in reduced_pairs(field, columns)]


def null_rows(field, width, rows):
    """One null row for each place that is no pivot."""
    pairs = reduced_pairs(field, check_rows(field, width, rows))
    return [null_row_at(field, width, pairs, free) for free in free_places(width, pairs)]


def factors_for(field, width, rows, goal):
    """The factors of the goal, or None if it is no combination."""
    matrix = check_rows(field, width, rows)
    return find_factors(field, width, matrix, check_row(goal, field.size, width, "goal"))


def barrier_for(field, width, rows, goal):
    """The barrier against the goal, or None if it is a combination."""
    matrix = check_rows(field, width, rows)
    aim = check_row(goal, field.size, width, "goal")
    return null_row_against(field, width, reduced_pairs(field, matrix), aim)


def solve_or_bar(field, width, rows, goal):
    """The factors of the goal or the barrier against it, behind a word that says which."""
    factors = factors_for(field, width, rows, goal)
    if factors is None:
        return ("barrier", barrier_for(field, width, rows, goal))
    return ("factors", factors)


def dependence(field, width, rows):
    """Factors of an all-zero combination with 1 at the first row that is no base row, or None."""
    matrix = check_rows(field, width, rows)
    pairs = reduced_pairs(field, columns_of(width, matrix))
    free = free_places(len(matrix), pairs)
    if free == []:
        return None
    return null_row_at(field, len(matrix), pairs, free[0])


def is_factors(field, width, rows, goal, paper):
    """Tell whether the paper is a list of factors of the goal."""
    matrix = check_rows(field, width, rows)
    aim = check_row(goal, field.size, width, "goal")
    return is_row(paper, field.size, len(matrix)) and combine_rows(field, width, matrix, paper) == aim


def is_barrier(field, width, rows, goal, paper):
    """Tell whether the paper is a null row whose sum of products with the goal is not 0."""
    matrix = check_rows(field, width, rows)
    aim = check_row(goal, field.size, width, "goal")
    if not is_row(paper, field.size, width):
        return False
    if any([sum_of_products(field, paper, row) != 0 for row in matrix]):
        return False
    return sum_of_products(field, paper, aim) != 0


def is_dependence(field, width, rows, paper):
    """Tell whether the paper is a list of factors, not all 0, of an all-zero combination."""
    matrix = check_rows(field, width, rows)
    if not is_row(paper, field.size, len(matrix)) or first_place(paper) is None:
        return False
    return first_place(combine_rows(field, width, matrix, paper)) is None


class System:
    """Equations about one unknown row, each a row and the value of its sum of products."""

    def __init__(self, field, width):
        self._width = check_number(width, 0, MOST, "width")
        self._field = field
        # Each pair has a pivot and a reduced row with its value behind it, at place `width`.
        self._pairs = []
        self._answered = 0

    def learn(self, row, value):
        """Take an equation; tell whether its row was new."""
        checked = check_row(row, self._field.size, self._width, "row")
        check_element(value, self._field.size, "value")
        known = self.rank
        self._pairs = with_equation(self._field, self._pairs, checked + [value], self._answered)
        self._answered += 1
        return self.rank > known

    def value_of(self, goal):
        """The value that follows for the goal, or None."""
        rest = self._rest_of(goal)
        if first_place(rest[:-1]) is not None:
            return None
        return self._field.negatives[rest[-1]]

    def __contains__(self, x):
        return first_place(self._rest_of(x)[:-1]) is None

    @property
    def rank(self):
        """The rank of the learned rows."""
        return len(self._pairs)

    def facts(self):
        """The reduced form of the learned rows, each row with the value that follows."""
        return [(row[:-1], row[-1]) for _, row in self._pairs]

    def _rest_of(self, goal):
        """What is left of the goal, with the negative of what was taken away as its value behind it."""
        aim = check_row(goal, self._field.size, self._width, "goal")
        return remainder_of(self._field, self._pairs, aim + [0])
