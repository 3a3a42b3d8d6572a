"""Rows and matrices without checks and without bounds, for the inside of the package.

What is passed here is right already: a Field, and lists of its elements of
fitting lengths. No function changes a list that it is passed.

An equation is a row with the value of its sum of products behind it.
"""

from mendsontime.errors import Clash


def add_rows(field, a, b):
    """The sum of two rows."""
    sums = field.sums
    return [sums[x][y] for x, y in zip(a, b)]


def scale_row(field, factor, row):
    """The row times the factor."""
    products = field.products[factor]
    return [products[x] for x in row]


def take_away(field, a, factor, b):
    """Row `a` minus row `b` times the factor."""
    sums = field.sums
    products = field.products[field.negatives[factor]]
    return [sums[x][products[y]] for x, y in zip(a, b)]


def sum_of_products(field, a, b):
    """The sum of the products of the entries."""
    total = 0
    for x, y in zip(a, b):
        total = field.sums[total][field.products[x][y]]
    return total


def combine_rows(field, width, rows, factors):
    """The sum of factor times row, all zeros without rows."""
    total = [0] * width
    for factor, row in zip(factors, rows):
        if factor != 0:
            total = add_rows(field, total, scale_row(field, factor, row))
    return total


def unit_row(size, place):
    """The unit row of that width with its 1 at the place."""
    return [1 if at == place else 0 for at in range(size)]


def columns_of(width, rows):
    """The list of the columns."""
    return [[row[place] for row in rows] for place in range(width)]


def join_rows(a, b):
    """The rows of `a`, each followed by the row of `b` beside it."""
    return [left + right for left, right in zip(a, b)]


def all_rows(size, length):
    """All rows of that length, ascending."""
    found = [[]]
    for _ in range(length):
        found = [row + [value] for row in found for value in range(size)]
    return found


def first_place(row):
    """The first place at which the row is not 0, or None."""
    for place, value in enumerate(row):
        if value != 0:
            return place
    return None


def remainder_of(field, pairs, row):
    """What is left of the row when the reduced rows have taken their pivots away."""
    rest = row
    for place, reduced_row in pairs:
        if rest[place] != 0:
            rest = take_away(field, rest, rest[place], reduced_row)
    return rest


def with_remainder(field, pairs, rest):
    """The pairs of the reduced form with one more row, a remainder that is not all zero."""
    place = first_place(rest)
    fresh = scale_row(field, field.inverses[rest[place]], rest)
    cleared = [(at, row if row[place] == 0 else take_away(field, row, row[place], fresh)) for at, row in pairs]
    return sorted(cleared + [(place, fresh)], key=lambda pair: pair[0])


def with_rows(field, pairs, rows):
    """The pairs of the reduced form with more rows."""
    for row in rows:
        rest = remainder_of(field, pairs, row)
        if first_place(rest) is not None:
            pairs = with_remainder(field, pairs, rest)
    return pairs


def reduced_pairs(field, rows):
    """The reduced form of the rows, as ascending pairs of a pivot and its row."""
    return with_rows(field, [], rows)


def with_equation(field, pairs, equation, moment):
    """The pairs of reduced equations with one more equation, which clashes if another value follows."""
    rest = remainder_of(field, pairs, equation)
    first = first_place(rest)
    if first == len(equation) - 1:
        raise Clash(moment)
    return pairs if first is None else with_remainder(field, pairs, rest)


def with_equations(field, pairs, equations, moment):
    """The pairs of reduced equations with more equations."""
    for equation in equations:
        pairs = with_equation(field, pairs, equation, moment)
    return pairs


def values_of(pairs):
    """The places of the unknowns that reduced equations determine, with their values."""
    return {place: row[-1] for place, row in pairs if row[:-1].count(0) == len(row) - 2}


def unit_places(pairs):
    """The ascending list of the places whose unit rows are combinations of the reduced rows."""
    return [place for place, row in pairs if row.count(0) == len(row) - 1]


def free_places(width, pairs):
    """The ascending list of the places that are no pivots."""
    taken = [place for place, _ in pairs]
    return [place for place in range(width) if place not in taken]


def null_row_at(field, width, pairs, free):
    """The null row with 1 at the free place and 0 at every other place that is no pivot."""
    null_row = unit_row(width, free)
    for place, row in pairs:
        null_row[place] = field.negatives[row[free]]
    return null_row


def null_row_against(field, width, pairs, goal):
    """The barrier against the goal, or None if the goal is a combination of the reduced rows."""
    first = first_place(remainder_of(field, pairs, goal))
    if first is None:
        return None
    return null_row_at(field, width, pairs, first)


def find_all_factors(field, width, rows, goals):
    """For each goal its one form of factors, 0 at rows that are no base rows; None if a goal has none."""
    # The base rows are the pivots of the turned matrix, so its reduced form has just these factors.
    many = len(rows)
    pairs = reduced_pairs(field, join_rows(columns_of(width, rows), columns_of(width, goals)))
    if any([place >= many for place, _ in pairs]):
        return None
    values = {place: row[many:] for place, row in pairs}
    return [[values[place][at] if place in values else 0 for place in range(many)] for at in range(len(goals))]


def find_factors(field, width, rows, goal):
    """The one form of factors of the goal, or None if it is no combination."""
    found = find_all_factors(field, width, rows, [goal])
    return None if found is None else found[0]
