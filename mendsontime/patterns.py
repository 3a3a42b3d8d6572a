"""Patterns of heard and lost beats."""

from mendsontime.errors import BadText, check_number, check_pattern

MOST_BEATS = 800
MOST_ROUND = 8


def stretches(pattern):
    """The tuples of the first beat and the length of each stretch."""
    flags = check_pattern(pattern, MOST_BEATS, "pattern")
    around = [0] + flags + [0]
    # Beginnings and ends of stretches take turns, so every second edge is a beginning.
    edges = [beat for beat in range(len(flags) + 1) if around[beat] != around[beat + 1]]
    return [(first, end - first) for first, end in zip(edges[::2], edges[1::2])]


def gaps(pattern):
    """The numbers of heard beats between successive stretches."""
    runs = stretches(pattern)
    return [later[0] - first - length for (first, length), later in zip(runs, runs[1:])]


def heard_beats(pattern):
    """The heard beats, ascending."""
    return [beat for beat, flag in enumerate(check_pattern(pattern, MOST_BEATS, "pattern")) if flag == 0]


def lost_beats(pattern):
    """The lost beats, ascending."""
    return [beat for beat, flag in enumerate(check_pattern(pattern, MOST_BEATS, "pattern")) if flag == 1]


def round_pattern(lost, heard, beats):
    """The first flags of: so many lost beats, then so many heard beats, again and again."""
    check_number(lost, 0, MOST_ROUND, "lost")
    check_number(heard, 1 if lost == 0 else 0, MOST_ROUND, "heard")
    check_number(beats, 0, MOST_BEATS, "beats")
    return [1 if beat % (lost + heard) < lost else 0 for beat in range(beats)]


def pattern_text(pattern):
    """The text with a sign for each beat, `x` if it is lost."""
    return "".join(["x" if flag == 1 else "." for flag in check_pattern(pattern, MOST_BEATS, "pattern")])


def read_pattern(text):
    """The pattern with that text."""
    if type(text) is not str or len(text) > MOST_BEATS:
        raise BadText(1)
    if not all([sign in (".", "x") for sign in text]):
        raise BadText(1)
    return [1 if sign == "x" else 0 for sign in text]
