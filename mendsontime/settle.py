"""Settling: the code of a setting with its table, or the bar; and codes found by judging them all."""

from mendsontime.bar import bar_paper, is_bar_paper
from mendsontime.burstmake import MOST_DELAY, Making, can_make, check_setting
from mendsontime.errors import check_number, check_rows_count, is_whole
from mendsontime.forms import is_tuple
from mendsontime.judge import Walk, is_yes, yes_table
from mendsontime.linear import all_rows
from mendsontime.rules import BurstRule
from mendsontime.timecode import TimeCode

MOST_BURST = 8
MOST_MULTIPLE = 12
MOST_BOUND = 400
MOST_CODE_LETTERS = 4
MOST_CODE_SIGNS = 4
MOST_CODE_MEMORY = 3
MOST_CODES = 256


def most_letters(signs, burst, delay):
    """The greatest number of letters for which the setting can be made."""
    check_setting(0, signs, burst, delay)
    return max([letters for letters in range(signs + 1) if can_make(letters, signs, burst, delay)])


def settle(field, letters, signs, burst, delay):
    """The code of the setting with its table, or the bar certificate, behind a word that says which."""
    paper = bar_paper(letters, signs, burst, delay)
    if paper is not None:
        return ("bar", *paper)
    making = Making(field, letters, signs, burst, delay)
    return ("code", making.multiple, making.code, yes_table(making.code, BurstRule(burst, delay), delay))


def is_settled(field, letters, signs, burst, delay, paper):
    """Tell whether the paper settles the setting over the field."""
    check_setting(letters, signs, burst, delay)
    if not is_tuple(paper, 4):
        return False
    if paper[0] == "bar":
        return is_bar_paper(letters, signs, burst, delay, paper[1:])
    _, multiple, code, table = paper
    if paper[0] != "code" or not is_whole(multiple, 1, MOST_MULTIPLE) or not isinstance(code, TimeCode):
        return False
    if code.field != field or code.letters != letters * multiple or code.signs != signs * multiple:
        return False
    return is_yes(code, BurstRule(burst, delay), delay, table)


def mends_rule(code, rule, delay):
    """Tell whether the code mends every pattern that keeps the rule."""
    return Walk(code, rule, delay, MOST_BOUND).failure is None


def least_delay(code, rule):
    """The least delay with which the code mends every pattern that keeps the rule, or None."""
    for delay in range(1, MOST_DELAY + 1):
        if mends_rule(code, rule, delay):
            return delay
    return None


def greatest_burst(code, delay):
    """The greatest burst that the code mends with gaps of the delay, or None."""
    check_number(delay, 1, MOST_DELAY, "delay")
    greatest = None
    for burst in range(MOST_BURST + 1):
        if not mends_rule(code, BurstRule(burst, delay), delay):
            break
        greatest = burst
    return greatest


def check_code_numbers(letters, signs, memory):
    """Check the numbers of codes that are listed."""
    check_number(letters, 0, MOST_CODE_LETTERS, "letters")
    check_number(signs, 1, MOST_CODE_SIGNS, "signs")
    check_number(memory, 0, MOST_CODE_MEMORY, "memory")


def all_codes(field, letters, signs, memory):
    """The codes with all taps up to the memory, their entries ascending."""
    check_code_numbers(letters, signs, memory)
    return made_codes(field, letters, signs, memory)


def made_codes(field, letters, signs, memory):
    """The codes of `all_codes` for numbers that were checked."""
    many = letters * (memory + 1)
    check_rows_count(field.size, signs * many, MOST_CODES)
    found = []
    for entries in all_rows(field.size, signs * many):
        rows = [entries[at * signs:(at + 1) * signs] for at in range(many)]
        taps = [rows[delay * letters:(delay + 1) * letters] for delay in range(memory + 1)]
        found.append(TimeCode(field, letters, signs, taps))
    return found


def codes_that_mend(field, letters, signs, memory, rule, delay):
    """The codes of `all_codes` that mend every pattern that keeps the rule."""
    check_code_numbers(letters, signs, memory)
    check_number(delay, 1, MOST_DELAY, "delay")
    return [code for code in made_codes(field, letters, signs, memory) if mends_rule(code, rule, delay)]
