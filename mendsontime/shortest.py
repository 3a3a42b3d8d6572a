"""Shortest failures of a code, and the judge's word for yes or no."""

from mendsontime.errors import check_number
from mendsontime.forms import is_matrix, is_pattern, is_tuple
from mendsontime.judge import Walk, is_yes, table_of
from mendsontime.linear import first_place, null_row_against, reduced_pairs, unit_row
from mendsontime.machine import all_patterns
from mendsontime.reason import is_silent, mends

MOST_DELAY = 6
MOST_BOUND = 400
MOST_BEATS = 401
MOST_TRIED = 8


def shortest_failure(code, rule, delay, *, bound=400):
    """The shortest failure, or None if the walk ends without failure."""
    check_number(delay, 1, MOST_DELAY, "delay")
    check_number(bound, 1, MOST_BOUND, "bound")
    walk = Walk(code, rule, delay, bound)
    return None if walk.failure is None else failure_of(code, delay, walk)


def failure_of(code, delay, walk):
    """The failure of a walk that ended with one."""
    pattern, stack = walk.failure
    last = silent_letters(code, delay, stack)
    rows = [last[at * code.letters:(at + 1) * code.letters] for at in range(delay + 1)]
    return (pattern, [[0] * code.letters for _ in range(len(pattern) - 1 - delay)] + rows)


def silent_letters(code, delay, stack):
    """Letters of the last beats, not all 0 in the oldest one, that all rows of the stack are silent about."""
    width = code.letters * (delay + 1)
    pairs = reduced_pairs(code.field, stack)
    barriers = [null_row_against(code.field, width, pairs, unit_row(width, place)) for place in range(code.letters)]
    return [barrier for barrier in barriers if barrier is not None][0]


def is_failure(code, rule, delay, paper):
    """Tell whether the paper is a failure, of any length."""
    check_number(delay, 1, MOST_DELAY, "delay")
    if not is_tuple(paper, 2):
        return False
    pattern, stream = paper
    if not is_pattern(pattern, delay + 1, MOST_BEATS) or pattern not in rule:
        return False
    if not is_matrix(stream, code.field.size, len(pattern), len(pattern), code.letters):
        return False
    return first_place(stream[len(pattern) - 1 - delay]) is not None and is_silent(code, pattern, stream)


def failure_by_all(code, rule, delay, beats):
    """The first pattern that keeps the rule and that the code does not mend, by trying all; or None."""
    check_number(delay, 1, MOST_DELAY, "delay")
    check_number(beats, 0, MOST_TRIED, "beats")
    for many in range(1, beats + 1):
        for pattern in all_patterns(rule, many):
            if not mends(code, delay, pattern):
                return pattern
    return None


def judged(code, rule, delay, *, bound=400):
    """The table behind the word yes, or a failure behind the word no."""
    check_number(delay, 1, MOST_DELAY, "delay")
    check_number(bound, 1, MOST_BOUND, "bound")
    walk = Walk(code, rule, delay, bound)
    if walk.failure is None:
        return ("yes", table_of(code, delay, walk))
    pattern, stream = failure_of(code, delay, walk)
    return ("no", pattern, stream)


def is_judged(code, rule, delay, paper):
    """Tell whether the paper has one of the two forms that `judged` returns, and is right."""
    check_number(delay, 1, MOST_DELAY, "delay")
    if is_tuple(paper, 2) and paper[0] == "yes":
        return is_yes(code, rule, delay, paper[1])
    if is_tuple(paper, 3) and paper[0] == "no":
        return is_failure(code, rule, delay, (paper[1], paper[2]))
    return False
