"""Mixed losses: codes and bars for windows that lose few beats, or more beats in one run."""

from mendsontime.bar import is_counted, lowest, shortest_bar
from mendsontime.burstmake import base_code
from mendsontime.cauchy import cauchy_checks
from mendsontime.errors import check_number
from mendsontime.rules import WindowRule
from mendsontime.slant import slant_code

MOST_IN_SETTING = 8
MOST_DELAY = 6
LEAST_WINDOW = 2
MOST_WINDOW = 7


def check_window(window, burst, few):
    """Check the mixed conditions of the three numbers of a window."""
    check_number(window, LEAST_WINDOW, MOST_WINDOW, "window")
    check_number(burst, 0, window - 1, "burst")
    check_number(few, min(1, burst), burst, "few")


def check_mixed(letters, signs, window, burst, few, delay):
    """Check the mixed conditions."""
    check_number(letters, 0, MOST_IN_SETTING, "letters")
    check_number(signs, max(1, letters), MOST_IN_SETTING, "signs")
    check_window(window, burst, few)
    check_number(delay, window - 1, MOST_DELAY, "delay")


def mixed_share(window, burst, few):
    """The share that no code for these windows is above."""
    check_window(window, burst, few)
    return lowest(window - few, window - few + burst)


def few_code(field, window, lost):
    """The code that mends so many lost beats in each window, wherever they stand."""
    check_number(window, LEAST_WINDOW, MOST_WINDOW, "window")
    check_number(lost, 0, window - 1, "lost")
    return slant_code(field, window - lost, lost, cauchy_checks(field, window - lost, lost))


def mixed_code(field, window, burst, few):
    """The code for these windows, and whether it reaches the share."""
    check_window(window, burst, few)
    if few <= 1:
        return (base_code(field, burst, window - 1), True)
    return (few_code(field, window, burst), few == burst)


def mixed_bar_paper(letters, signs, window, burst, few, delay):
    """The bar certificate of the shortest round pattern, or None."""
    check_mixed(letters, signs, window, burst, few, delay)
    return shortest_bar(letters, signs, burst, window - few, delay)


def is_mixed_bar_paper(letters, signs, window, burst, few, delay, paper):
    """Tell whether the paper is a bar certificate of the mixed setting, of a round pattern or of another one."""
    check_mixed(letters, signs, window, burst, few, delay)
    return is_counted(letters, signs, WindowRule(window, burst, few), delay, paper)
