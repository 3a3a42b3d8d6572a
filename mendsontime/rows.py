"""Rows and matrices over a field, with checks of what is passed."""

from mendsontime.errors import (
    BadShape, check_element, check_list, check_matrix, check_number, check_row, check_row_up_to, check_shape,
)
from mendsontime.linear import (
    add_rows, columns_of, combine_rows, join_rows, scale_row, sum_of_products, unit_row,
)

MOST = 200


def zero_rows(high, width):
    """A matrix of zeros."""
    check_number(high, 0, MOST, "high")
    check_number(width, 0, MOST, "width")
    return [[0] * width for _ in range(high)]


def unit_rows(size):
    """The unit rows of that width, in order."""
    check_number(size, 0, MOST, "size")
    return [unit_row(size, place) for place in range(size)]


def row_plus(field, a, b):
    """The sum of two rows."""
    left = check_row_up_to(a, field.size, MOST, "a")
    right = check_row(b, field.size, len(left), "b")
    return add_rows(field, left, right)


def row_times(field, factor, a):
    """The row times the factor."""
    check_element(factor, field.size, "factor")
    return scale_row(field, factor, check_row_up_to(a, field.size, MOST, "a"))


def product_sum(field, a, b):
    """The sum of the products of the entries of two rows."""
    left = check_row_up_to(a, field.size, MOST, "a")
    right = check_row(b, field.size, len(left), "b")
    return sum_of_products(field, left, right)


def combine(field, width, rows, factors):
    """The combination of the rows with the factors."""
    check_number(width, 0, MOST, "width")
    matrix = check_matrix(rows, field.size, MOST, width, "rows", exact=False)
    weights = check_row(factors, field.size, len(matrix), "factors")
    return combine_rows(field, width, matrix, weights)


def product_rows(field, inner, width, a, b):
    """The matrix whose rows are the combinations of the rows of `b` with the rows of `a`."""
    check_number(inner, 0, MOST, "inner")
    check_number(width, 0, MOST, "width")
    left = check_matrix(a, field.size, MOST, inner, "a", exact=False)
    right = check_matrix(b, field.size, inner, width, "b")
    return [combine_rows(field, width, right, row) for row in left]


def turned(width, rows):
    """The list of the columns; the entries may be anything."""
    check_number(width, 0, MOST, "width")
    check_shape(rows, MOST, width, "rows", exact=False)
    return columns_of(width, rows)


def beside(a, b):
    """The rows of `a`, each followed by the row of `b`; the entries may be anything."""
    check_list_of_lists(a, MOST, "a", exact=False)
    check_list_of_lists(b, len(a), "b", exact=True)
    return join_rows(a, b)


def check_list_of_lists(rows, most, argument, *, exact):
    """Check a list of lists, which may be of any lengths."""
    check_list(rows, most, argument, exact=exact)
    if not all([type(row) is list for row in rows]):
        raise BadShape(argument)
