"""Forms of papers: what a value of any kind is. Nothing here raises an error."""

from mendsontime.errors import is_row


def alike(a, b):
    """Tell whether two values are equal and of the same kinds through all levels."""
    if type(a) is list or type(a) is tuple:
        return type(a) is type(b) and len(a) == len(b) and all([alike(x, y) for x, y in zip(a, b)])
    return type(a) is type(b) and a == b


def is_list(value, least, most):
    """Tell whether the value is a list of at least and at most so many entries."""
    return type(value) is list and least <= len(value) <= most


def is_tuple(value, many):
    """Tell whether the value is a tuple of so many entries."""
    return type(value) is tuple and len(value) == many


def is_pattern(value, least, most):
    """Tell whether the value is a pattern of at least and at most so many beats."""
    return is_list(value, least, most) and is_row(value, 2, len(value))


def is_matrix(value, size, least, most, width):
    """Tell whether the value is a matrix of that width, of at least and at most so many rows."""
    return is_list(value, least, most) and all([is_row(row, size, width) for row in value])
