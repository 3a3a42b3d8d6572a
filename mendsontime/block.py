"""Block codes, and the ring code that mends wrap-around runs of losses."""

from itertools import combinations

from mendsontime.errors import check_matrix, check_number, check_pattern, check_row, check_rows_count, is_row
from mendsontime.linear import (
    all_rows, columns_of, combine_rows, find_factors, join_rows, reduced_pairs, sum_of_products, unit_row,
)

MOST = 12
MOST_WORDS = 512


def check_code(field, width, rows):
    """Return a copy of the matrix after the checks of width and rows."""
    check_number(width, 0, MOST, "width")
    return check_matrix(rows, field.size, MOST, width, "rows", exact=False)


def encode_block(field, width, rows, letters):
    """The signs of the letters."""
    matrix = check_code(field, width, rows)
    factors = check_row(letters, field.size, len(matrix), "letters")
    return combine_rows(field, width, matrix, factors)


def block_words(field, width, rows):
    """The signs of all letter rows, the letter rows ascending."""
    matrix = check_code(field, width, rows)
    check_rows_count(field.size, len(matrix), MOST_WORDS)
    return [combine_rows(field, width, matrix, letters) for letters in all_rows(field.size, len(matrix))]


def least_weight(field, width, rows):
    """The least number of signs other than 0 for letters that are not all 0, or None."""
    words = block_words(field, width, rows)
    # The first word is the one of letters that are all 0.
    return min([width - word.count(0) for word in words[1:]], default=None)


def heard_columns(rows, lost):
    """The columns of the matrix at the places that are not lost."""
    return [column for column, flag in zip(columns_of(len(lost), rows), lost) if flag == 0]


def solving_rows(field, width, rows, pattern):
    """For each letter its solving row, or None if it is not determined."""
    matrix = check_code(field, width, rows)
    lost = check_pattern(pattern, width, "pattern", exact=True)
    columns = heard_columns(matrix, lost)
    many = len(matrix)
    found = [find_factors(field, many, columns, unit_row(many, letter)) for letter in range(many)]
    return [None if factors is None else spread(factors, lost) for factors in found]


def spread(factors, lost):
    """The factors of the heard places, in order, with 0 at each lost place."""
    row = [0] * len(lost)
    heard = [place for place, flag in enumerate(lost) if flag == 0]
    for place, factor in zip(heard, factors):
        row[place] = factor
    return row


def determines_all(field, rows, lost):
    """Tell whether all letters follow from the signs at the places that are not lost."""
    return len(reduced_pairs(field, heard_columns(rows, lost))) == len(rows)


def mends_block(field, width, rows, pattern):
    """Tell whether every letter is determined."""
    matrix = check_code(field, width, rows)
    return determines_all(field, matrix, check_pattern(pattern, width, "pattern", exact=True))


def is_solving(field, width, rows, pattern, paper):
    """Tell whether the paper has a solving row, of any form, for each letter."""
    matrix = check_code(field, width, rows)
    lost = check_pattern(pattern, width, "pattern", exact=True)
    if type(paper) is not list or len(paper) != len(matrix):
        return False
    return all([solves(field, matrix, lost, letter, row) for letter, row in enumerate(paper)])


def solves(field, rows, lost, letter, paper):
    """Tell whether the paper is a solving row of that letter."""
    if not is_row(paper, field.size, len(lost)):
        return False
    if any([flag == 1 and factor != 0 for flag, factor in zip(lost, paper)]):
        return False
    return [sum_of_products(field, paper, row) for row in rows] == unit_row(len(rows), letter)


def has_greatest_distance(field, width, rows):
    """Tell whether every choice of as many columns as there are letters is independent."""
    matrix = check_code(field, width, rows)
    many = len(matrix)
    if many > width:
        return False
    columns = columns_of(width, matrix)
    for chosen in combinations(columns, len(matrix)):
        if len(reduced_pairs(field, chosen)) < many:
            return False
    return True


def mends_runs(field, width, rows, run):
    """Tell whether the code mends no losses and every wrap-around run of so many lost places."""
    matrix = check_code(field, width, rows)
    check_number(run, 0, width, "run")
    patterns = [[0] * width] + [wrapped_run(width, first, run) for first in range(width)]
    return all([determines_all(field, matrix, lost) for lost in patterns])


def wrapped_run(width, first, run):
    """The pattern of the wrap-around run that begins at the place `first`."""
    return [1 if (place - first) % width < run else 0 for place in range(width)]


def check_ring(letters, checks):
    """Check the arguments of the ring functions."""
    check_number(letters, 0, MOST, "letters")
    check_number(checks, 0, MOST, "checks")


def ring_checks(letters, checks):
    """The ring matrix."""
    check_ring(letters, checks)
    return ring_matrix(letters, checks)


def ring_matrix(letters, checks):
    """The ring matrix of any numbers, also beyond what is taken from outside."""
    if letters == 0 or checks == 0:
        return [[] for _ in range(letters)]
    if checks >= letters:
        units = [unit_row(letters, place) for place in range(letters)]
        return join_rows(units, ring_matrix(letters, checks - letters))
    return columns_of(letters, ring_matrix(checks, letters))


def ring_rows(letters, checks):
    """The ring code: the unit rows beside the ring matrix."""
    check_ring(letters, checks)
    units = [unit_row(letters, place) for place in range(letters)]
    return join_rows(units, ring_matrix(letters, checks))


def ring_trail(letters, checks):
    """The steps by which the ring matrix is made, with the numbers ahead of each step."""
    check_ring(letters, checks)
    trail = []
    while letters > 0 and checks > 0:
        if checks >= letters:
            trail.append((letters, checks, "copy"))
            checks = checks - letters
        else:
            trail.append((letters, checks, "turn"))
            letters, checks = checks, letters
    return trail + [(letters, checks, "end")]
