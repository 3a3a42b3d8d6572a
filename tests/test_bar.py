import fractions
import itertools
import unittest

from mendsontime.bar import bar_paper, best_share, is_bar_paper, round_counts, share_at_most, share_of
from mendsontime.burstmake import can_make
from mendsontime.errors import BadNumber
from mendsontime.patterns import round_pattern
from mendsontime.rules import BurstRule

from helping import (
    ODD_PAPERS, Numbers, bad_numbers, check_answer, check_error, check_errors, check_papers, check_same, some_pattern,
)

SETTINGS = [(letters, signs, burst, delay) for letters in range(9) for signs in range(max(1, letters), 9)
            for burst in range(9) for delay in range(1, 7)]

SETTING = {"letters": 2, "signs": 4, "burst": 3, "delay": 2}
BAD_SETTING = {"letters": bad_numbers(0, 8), "signs": bad_numbers(2, 8), "burst": bad_numbers(0, 8),
               "delay": bad_numbers(1, 6)}


def plain_counts(letters, signs, delay, pattern):
    """The letters due and the signs heard, beat by beat."""
    due = sum(letters for beat in range(len(pattern)) if beat + delay < len(pattern))
    return due, sum(signs for flag in pattern if not flag)


def plain_paper(letters, signs, burst, delay):
    """The least number of beats with more letters due than signs heard, by all beats up to 800."""
    due, heard = 0, 0
    for beat, flag in enumerate(round_pattern(burst, delay, 800)):
        due += letters * (beat >= delay)
        heard += signs * (1 - flag)
        if due > heard:
            return round_pattern(burst, delay, beat + 1), due, heard
    return None


class Shares(unittest.TestCase):
    def test_share_of(self):
        for letters, signs in itertools.product((0, 1, 2, 3, 6, 8, 12, 999, 1000), (1, 2, 4, 6, 9, 500, 999, 1000)):
            due = fractions.Fraction(letters, signs)
            check_same(self, share_of(letters, signs), (due.numerator, due.denominator))
        check_same(self, [share_of(0, 7), share_of(6, 4), share_of(1000, 1000)], [(0, 1), (3, 2), (1, 1)])
        check_errors(self, share_of, {"letters": 3, "signs": 4},
                     {"letters": bad_numbers(0, 1000), "signs": bad_numbers(1, 1000)})
        check_answer(self, share_of, {"letters": 4, "signs": 6})

    def test_share_at_most(self):
        shares = [(top, bottom) for top in range(5) for bottom in range(1, 6)] + [(10 ** 30, 10 ** 30 + 1), (4, 8)]
        for share, other in itertools.product(shares, repeat=2):
            due = fractions.Fraction(*share) <= fractions.Fraction(*other)
            self.assertIs(check_answer(self, share_at_most, {"share": share, "other": other}), due)
        self.assertIs(share_at_most((2, 4), (1, 2)), True)
        self.assertIs(share_at_most((-1, 2), (0, 1)), True)
        self.assertIs(share_at_most((1, 2), (-1, 2)), False)

    def test_best_share(self):
        for burst, delay in itertools.product(range(9), range(1, 7)):
            due = fractions.Fraction(delay, delay + burst) if burst <= delay else fractions.Fraction(0)
            check_same(self, best_share(burst, delay), (due.numerator, due.denominator))
        check_same(self, [best_share(0, 5), best_share(2, 4), best_share(3, 2)], [(1, 1), (2, 3), (0, 1)])
        check_errors(self, best_share, {"burst": 2, "delay": 3},
                     {"burst": bad_numbers(0, 8), "delay": bad_numbers(1, 6)})
        check_answer(self, best_share, {"burst": 2, "delay": 2})

    def test_a_setting_can_be_made_up_to_the_best_share(self):
        for letters, signs, burst, delay in SETTINGS:
            below = share_at_most(share_of(letters, signs), best_share(burst, delay))
            self.assertIs(can_make(letters, signs, burst, delay), below)


class Counts(unittest.TestCase):
    def test_round_counts(self):
        for letters, signs, burst, delay in SETTINGS[::7]:
            for beats in (0, 1, 2, 3, 5, 7, 8, 14, 15, 29, 100, 799, 800):
                due = plain_counts(letters, signs, delay, round_pattern(burst, delay, beats))
                check_same(self, round_counts(letters, signs, burst, delay, beats), due)
        check_same(self, round_counts(1, 2, 1, 1, 3), (2, 2))
        check_same(self, round_counts(3, 4, 2, 3, 3), (0, 4))
        check_same(self, round_counts(3, 4, 2, 3, 4), (3, 8))

    def test_checks(self):
        good = {**SETTING, "beats": 9}
        check_errors(self, round_counts, good, {**BAD_SETTING, "beats": bad_numbers(0, 800)})
        check_answer(self, round_counts, good)


class Papers(unittest.TestCase):
    def test_every_setting(self):
        for setting in SETTINGS:
            paper = bar_paper(*setting)
            check_same(self, paper, plain_paper(*setting) if not can_make(*setting) else None)
            if paper is not None:
                self.assertIs(is_bar_paper(*setting, paper), True)
                self.assertTrue(paper[0] in BurstRule(*setting[2:]))
                letters, signs, burst, delay = setting
                self.assertLessEqual(len(paper[0]), (letters * delay + 1) * (delay + burst))

    def test_none_exactly_if_the_setting_can_be_made(self):
        for setting in SETTINGS[::5]:
            if can_make(*setting):
                self.assertIsNone(plain_paper(*setting))

    def test_told_papers(self):
        check_same(self, bar_paper(1, 1, 1, 1), ([1, 0, 1], 2, 1))
        check_same(self, bar_paper(1, 8, 2, 1), ([1, 1], 1, 0))
        check_same(self, bar_paper(2, 3, 2, 2), ([1, 1, 0, 0, 1, 1], 8, 6))
        self.assertIsNone(bar_paper(1, 2, 1, 1))
        self.assertIsNone(bar_paper(0, 1, 8, 1))

    def test_any_pattern_that_bars(self):
        # The pattern need not be round, and it may begin with heard beats.
        right = [([1, 0, 1], 2, 1), ([0, 1, 0, 1, 0, 1], 5, 3), ([1, 0, 1, 0, 1], 4, 2), ([1, 0, 1, 0], 3, 2)]
        wrong = [([1, 0, 1], 2, 2), ([1, 0, 1], 3, 1), ([1, 0, 1], 1, 1), ([1, 1, 0], 2, 1), ([1, 0], 1, 1),
                 ([0, 0, 1], 2, 2), ([1, 0, 1], True, 1), ([1, 0, 1], 2, True), ((1, 0, 1), 2, 1), [[1, 0, 1], 2, 1],
                 ([1, 0, True], 2, 1), ([1, 0, 2], 2, 1), ([1, 0, None], 2, 1), ([1, 0, 1], 2), ([1, 0, 1], 2, 1, 0),
                 ([1, 0, 1], "2", 1), ([1, 0, 1], 2, None), ([], 0, 0), ([], 1, 0), ([1], 0, 0), ("101", 2, 1),
                 ([[1, 0, 1]], 2, 1), ([1, 0, 1], [2], 1), ([1, 0, -1], 2, 1), ([1, 0, 1], 2, -1)]
        check_papers(self, is_bar_paper, (1, 1, 1, 1), right, wrong)
        # A bool is no count, also where it is equal to the due one.
        check_papers(self, is_bar_paper, (1, 8, 2, 1), [([1, 1], 1, 0)],
                     [([1, 1], True, 0), ([1, 1], 1, False), ([True, True], 1, 0)])

    def test_judged_by_the_plain_meaning(self):
        numbers = Numbers(5)
        for setting in SETTINGS[::3]:
            letters, signs, burst, delay = setting
            for beats in (delay, delay + 1, 2 * delay + burst, 25, 60):
                pattern = some_pattern(numbers, BurstRule(burst, delay), beats)
                due, heard = plain_counts(letters, signs, delay, pattern)
                self.assertIs(is_bar_paper(*setting, (pattern, due, heard)), due > heard)
                self.assertIs(is_bar_paper(*setting, (pattern, due + 1, heard)), False)
                self.assertIs(is_bar_paper(*setting, (pattern, due, heard - 1)), False)
            flags = numbers.row(2, 30)
            due, heard = plain_counts(letters, signs, delay, flags)
            self.assertIs(is_bar_paper(*setting, (flags, due, heard)),
                          due > heard and flags in BurstRule(burst, delay))

    def test_exactly_800_and_801_beats(self):
        for beats, due in ((799, True), (800, True), (801, False)):
            pattern = ([1, 0] * 401)[:beats]
            paper = (pattern, *plain_counts(1, 1, 1, pattern))
            self.assertIs(is_bar_paper(1, 1, 1, 1, paper), due)
            self.assertIs(is_bar_paper(1, 1, 1, 1, ([2] * beats, *paper[1:])), False)

    def test_no_paper_for_a_setting_that_can_be_made(self):
        for setting in ((1, 2, 1, 1), (0, 1, 3, 1), (2, 3, 1, 2)):
            check_papers(self, is_bar_paper, setting, [], [([1, 0, 1], 2, 1), ([1, 0, 1], 2, 2), ([1, 0, 1], 0, 0)])

    def test_checks(self):
        check_errors(self, bar_paper, SETTING, BAD_SETTING)
        for paper in (None, ([1, 0, 1], 2, 1), ODD_PAPERS[-1]):
            check_errors(self, is_bar_paper, {**SETTING, "paper": paper}, BAD_SETTING)
        for letters in range(9):
            for function in (bar_paper, lambda *numbers: is_bar_paper(*numbers, None),
                             lambda *numbers: round_counts(*numbers, None)):
                check_error(self, BadNumber, "signs", function, letters, max(1, letters) - 1, None, None)
        check_answer(self, bar_paper, SETTING)
        self.assertEqual(is_bar_paper(paper=([1, 0, 1], 2, 1), delay=1, burst=1, signs=1, letters=1), True)


if __name__ == "__main__":
    unittest.main()
