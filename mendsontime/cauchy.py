"""Block codes of greatest distance: Cauchy codes and points codes."""

from mendsontime.errors import NotMade, check_number, check_pattern, check_row_up_to
from mendsontime.linear import join_rows, unit_row
from mendsontime.poly import poly_through

MOST = 12


def cauchy_checks(field, letters, checks):
    """The Cauchy matrix."""
    check_number(letters, 0, MOST, "letters")
    check_number(checks, 0, MOST, "checks")
    if letters + checks > field.size:
        raise NotMade()
    return [[field.inverse(field.minus(row, letters + column)) for column in range(checks)]
            for row in range(letters)]


def cauchy_rows(field, letters, checks):
    """The unit rows beside the Cauchy matrix."""
    matrix = cauchy_checks(field, letters, checks)
    return join_rows([unit_row(letters, place) for place in range(letters)], matrix)


def points_rows(field, letters, width):
    """The points code: row `i` has the powers `i` of the elements 0 to `width - 1`."""
    check_number(letters, 0, MOST, "letters")
    check_number(width, 0, MOST, "width")
    if width > field.size:
        raise NotMade()
    return [[field.raised(x, exponent) for x in range(width)] for exponent in range(letters)]


def points_solve(field, letters, signs, pattern):
    """The letters of a points code from the first heard signs, or None if too few are heard."""
    check_number(letters, 0, MOST, "letters")
    received = check_row_up_to(signs, field.size, MOST, "signs")
    lost = check_pattern(pattern, len(received), "pattern", exact=True)
    if len(received) > field.size:
        raise NotMade()
    heard = [(x, received[x]) for x, flag in enumerate(lost) if flag == 0]
    if len(heard) < letters:
        return None
    parts = poly_through(field, heard[:letters]).parts
    return parts + [0] * (letters - len(parts))
