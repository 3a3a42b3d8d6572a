"""The bar: shares, and patterns with more letters due than signs heard."""

from math import gcd

from mendsontime.burstmake import check_setting
from mendsontime.errors import check_number
from mendsontime.forms import is_pattern, is_tuple
from mendsontime.patterns import round_pattern
from mendsontime.rules import BurstRule

MOST_SHARE = 1000
MOST_BURST = 8
MOST_DELAY = 6
MOST_BEATS = 800


def lowest(top, bottom):
    """The share of two numbers, in lowest terms."""
    common = gcd(top, bottom)
    return (top // common, bottom // common)


def share_of(letters, signs):
    """The share of letters and signs."""
    check_number(letters, 0, MOST_SHARE, "letters")
    check_number(signs, 1, MOST_SHARE, "signs")
    return lowest(letters, signs)


def share_at_most(share, other):
    """Tell whether the first share is at most the second one; they need not be in lowest terms."""
    return share[0] * other[1] <= other[0] * share[1]


def best_share(burst, delay):
    """The greatest share of a setting that can be made."""
    check_number(burst, 0, MOST_BURST, "burst")
    check_number(delay, 1, MOST_DELAY, "delay")
    return (0, 1) if burst > delay else lowest(delay, delay + burst)


def letters_due(letters, delay, beats):
    """The number of letters that are due in the first beats."""
    return letters * max(0, beats - delay)


def heard_in_round(lost, heard, beats):
    """The number of heard beats in the first beats of a round pattern."""
    rounds, left = divmod(beats, lost + heard)
    return rounds * heard + max(0, left - lost)


def shortest_bar(letters, signs, lost, heard, delay):
    """The certificate of the shortest round pattern with more letters due than signs heard, or None."""
    # If no round pattern of at most so many beats has more letters due than signs heard, none has.
    most = (letters * delay + 1) * (lost + heard)
    for beats in range(most + 1):
        due = letters_due(letters, delay, beats)
        told = signs * heard_in_round(lost, heard, beats)
        if due > told:
            return (round_pattern(lost, heard, beats), due, told)
    return None


def round_counts(letters, signs, burst, delay, beats):
    """The letters due and the signs heard in the round pattern of so many beats."""
    check_setting(letters, signs, burst, delay)
    check_number(beats, 0, MOST_BEATS, "beats")
    return (letters_due(letters, delay, beats), signs * heard_in_round(burst, delay, beats))


def bar_paper(letters, signs, burst, delay):
    """The bar certificate of the shortest round pattern, or None."""
    check_setting(letters, signs, burst, delay)
    return shortest_bar(letters, signs, burst, delay, delay)


def is_bar_paper(letters, signs, burst, delay, paper):
    """Tell whether the paper is a bar certificate of the setting, of a round pattern or of another one."""
    check_setting(letters, signs, burst, delay)
    return is_counted(letters, signs, BurstRule(burst, delay), delay, paper)


def is_counted(letters, signs, rule, delay, paper):
    """Tell whether the paper has a pattern of the rule and its counts, with more letters due than signs heard."""
    if not is_tuple(paper, 3):
        return False
    pattern, due, heard = paper
    if not is_pattern(pattern, 0, MOST_BEATS) or pattern not in rule:
        return False
    if type(due) is not int or type(heard) is not int:
        return False
    counts = (letters_due(letters, delay, len(pattern)), signs * pattern.count(0))
    return (due, heard) == counts and due > heard
