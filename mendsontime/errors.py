"""The errors of the program, and the checks of arguments that raise them."""


class MendError(ValueError):
    """The base class of all errors of this program."""


class BadNumber(MendError):
    """An argument is not a whole number within its bounds."""

    def __init__(self, argument):
        self.argument = argument


class BadShape(MendError):
    """An argument has not the kind or the length that is asked."""

    def __init__(self, argument):
        self.argument = argument


class BadElement(MendError):
    """An argument is, or has as an entry, what is no element of the field."""

    def __init__(self, argument):
        self.argument = argument


class BadText(MendError):
    """A text cannot be read; `line` is its first bad line, counted from 1."""

    def __init__(self, line):
        self.line = line


class TooLarge(MendError):
    """The work would be larger than `bound`."""

    def __init__(self, bound):
        self.bound = bound


class Clash(MendError):
    """Something told does not fit what was told before; `moment` says when."""

    def __init__(self, moment):
        self.moment = moment


class NoInverse(MendError):
    """The element 0, or the zero polynomial, was to be divided by."""


class NotMade(MendError):
    """There is no code of the kind that is asked."""


class Ended(MendError):
    """The object takes no more calls of this kind."""


def is_whole(value, low, high):
    """Tell whether the value, of any kind, is a whole number from low to high."""
    return type(value) is int and low <= value <= high


def is_row(value, size, length):
    """Tell whether the value, of any kind, is a list of so many elements."""
    if type(value) is not list or len(value) != length:
        return False
    return all([is_whole(entry, 0, size - 1) for entry in value])


def check_number(value, low, high, argument):
    """Return the value, a whole number from low to high."""
    if not is_whole(value, low, high):
        raise BadNumber(argument)
    return value


def check_element(value, size, argument):
    """Return the value, an element of the field of that size."""
    if not is_whole(value, 0, size - 1):
        raise BadElement(argument)
    return value


def check_boolean(value, argument):
    """Return the value, True or False."""
    if type(value) is not bool:
        raise BadNumber(argument)
    return value


def check_list(value, most, argument, *, exact):
    """Check a list of at most, or exactly, so many entries of any kind."""
    if type(value) is not list or len(value) > most:
        raise BadShape(argument)
    if exact and len(value) != most:
        raise BadShape(argument)


def check_rows_count(size, length, most):
    """Refuse more rows than `most` over a field of that size, all of that length."""
    many = 1
    for _ in range(length):
        many = many * size
    if many > most:
        raise TooLarge(most)


def check_entries(row, size, argument):
    """Return a copy of a list whose entries are all elements."""
    return [check_element(entry, size, argument) for entry in row]


def check_list_from(value, least, most, argument):
    """Check a list of at least and at most so many entries of any kind."""
    check_list(value, most, argument, exact=False)
    if len(value) < least:
        raise BadShape(argument)


def check_tuples(value, least, most, width, argument):
    """Check a list of at least and at most so many tuples of that width; the entries may be anything."""
    check_list_from(value, least, most, argument)
    for entry in value:
        if type(entry) is not tuple or len(entry) != width:
            raise BadShape(argument)


def check_row(row, size, length, argument):
    """Return a copy of a row of exactly that length."""
    check_list(row, length, argument, exact=True)
    return check_entries(row, size, argument)


def check_row_up_to(row, size, most, argument):
    """Return a copy of a row of at most that length."""
    check_list(row, most, argument, exact=False)
    return check_entries(row, size, argument)


def check_shape(rows, high, width, argument, *, exact):
    """Check a list of lists of exactly that width; the entries may be anything."""
    check_list(rows, high, argument, exact=exact)
    for row in rows:
        check_list(row, width, argument, exact=True)


def check_matrix(rows, size, high, width, argument, *, exact=True):
    """Return a copy of a matrix; without `exact` it may have fewer rows."""
    check_shape(rows, high, width, argument, exact=exact)
    return [check_entries(row, size, argument) for row in rows]


def check_pattern(pattern, most, argument, *, exact=False):
    """Return a copy of a pattern of at most, or exactly, so many flags."""
    check_list(pattern, most, argument, exact=exact)
    return check_entries(pattern, 2, argument)


def check_heard(heard, size, most, width, argument):
    """Return a copy of heard rows: sign rows, and None for lost beats."""
    check_list(heard, most, argument, exact=False)
    for row in heard:
        if row is not None:
            check_list(row, width, argument, exact=True)
    return [None if row is None else check_entries(row, size, argument) for row in heard]
