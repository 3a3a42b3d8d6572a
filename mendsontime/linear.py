"""Rows and matrices without checks and without bounds, for the inside of the package.

What is passed here is right already: a Field, and lists of its elements of
fitting lengths. No function changes a list that it is passed.
"""


def add_rows(field, a, b):
    """The sum of two rows."""
    sums = field.sums
    return [sums[x][y] for x, y in zip(a, b)]


def scale_row(field, factor, row):
    """The row times the factor."""
    products = field.products[factor]
    return [products[x] for x in row]


def take_away(field, a, factor, b):
    """Row `a` minus row `b` times the factor."""
    sums = field.sums
    products = field.products[field.negatives[factor]]
    return [sums[x][products[y]] for x, y in zip(a, b)]


def sum_of_products(field, a, b):
    """The sum of the products of the entries."""
    total = 0
    for x, y in zip(a, b):
        total = field.sums[total][field.products[x][y]]
    return total


def combine_rows(field, width, rows, factors):
    """The sum of factor times row, all zeros without rows."""
    total = [0] * width
    for factor, row in zip(factors, rows):
        total = add_rows(field, total, scale_row(field, factor, row))
    return total


def unit_row(size, place):
    """The unit row of that width with its 1 at the place."""
    return [1 if at == place else 0 for at in range(size)]


def columns_of(width, rows):
    """The list of the columns."""
    return [[row[place] for row in rows] for place in range(width)]


def join_rows(a, b):
    """The rows of `a`, each followed by the row of `b` beside it."""
    return [left + right for left, right in zip(a, b)]


def all_rows(size, length):
    """All rows of that length, ascending."""
    found = [[]]
    for _ in range(length):
        found = [row + [value] for row in found for value in range(size)]
    return found


def first_place(row):
    """The first place at which the row is not 0, or None."""
    for place, value in enumerate(row):
        if value != 0:
            return place
    return None


def remainder_of(field, pairs, row):
    """What is left of the row when the reduced rows have taken their pivots away."""
    rest = row
    for place, reduced_row in pairs:
        if rest[place] != 0:
            rest = take_away(field, rest, rest[place], reduced_row)
    return rest


def with_remainder(field, pairs, rest):
    """The pairs of the reduced form with one more row, a remainder that is not all zero."""
    place = first_place(rest)
    fresh = scale_row(field, field.inverses[rest[place]], rest)
    cleared = [(at, take_away(field, row, row[place], fresh)) for at, row in pairs]
    return sorted(cleared + [(place, fresh)], key=lambda pair: pair[0])


def reduced_pairs(field, rows):
    """The reduced form of the rows, as ascending pairs of a pivot and its row."""
    pairs = []
    for row in rows:
        rest = remainder_of(field, pairs, row)
        if first_place(rest) is not None:
            pairs = with_remainder(field, pairs, rest)
    return pairs


def free_places(width, pairs):
    """The ascending list of the places that are no pivots."""
    taken = [place for place, _ in pairs]
    return [place for place in range(width) if place not in taken]


def null_row_at(field, width, pairs, free):
    """The null row with 1 at the free place and 0 at every other place that is no pivot."""
    null_row = unit_row(width, free)
    for place, row in pairs:
        null_row[place] = field.negatives[row[free]]
    return null_row


def find_factors(field, width, rows, goal):
    """The one form of factors of the goal, 0 at rows that are no base rows, or None."""
    # The base rows are the pivots of the turned matrix, so its reduced form has just these factors.
    many = len(rows)
    stack = [column + [value] for column, value in zip(columns_of(width, rows), goal)]
    factors = [0] * many
    for place, row in reduced_pairs(field, stack):
        if place == many:
            return None
        factors[place] = row[many]
    return factors
