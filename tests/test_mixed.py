import fractions
import itertools
import unittest

from mendsontime.burstmake import base_code
from mendsontime.cauchy import cauchy_checks
from mendsontime.errors import BadNumber, NotMade
from mendsontime.field import Field
from mendsontime.judge import yes_table
from mendsontime.machine import same_patterns
from mendsontime.mixed import few_code, is_mixed_bar_paper, mixed_bar_paper, mixed_code, mixed_share
from mendsontime.patterns import round_pattern
from mendsontime.rules import BurstRule, WindowRule
from mendsontime.shortest import shortest_failure
from mendsontime.slant import slant_code
from mendsontime.timecode import TimeCode

from helping import (
    ODD_PAPERS, SIZES, Numbers, bad_numbers, check_answer, check_error, check_errors, check_papers, check_same,
    some_pattern,
)

WINDOWS = [(window, burst, few) for window in range(2, 8) for burst in range(window)
           for few in range(min(1, burst), burst + 1)]

SETTINGS = [(letters, signs, *numbers, delay) for letters in range(9) for signs in range(max(1, letters), 9)
            for numbers in WINDOWS for delay in range(numbers[0] - 1, 7)]

GOOD = {"letters": 2, "signs": 4, "window": 4, "burst": 3, "few": 2, "delay": 3}
BAD_WINDOW = {"window": bad_numbers(2, 7), "burst": bad_numbers(0, 3), "few": bad_numbers(1, 3)}
BAD = {"letters": bad_numbers(0, 8), "signs": bad_numbers(2, 8), **BAD_WINDOW, "delay": bad_numbers(3, 6)}


def due_share(window, burst, few):
    return fractions.Fraction(window - few, window - few + burst)


def plain_counts(letters, signs, delay, pattern):
    due = sum(letters for beat in range(len(pattern)) if beat + delay < len(pattern))
    return due, sum(signs for flag in pattern if not flag)


def plain_paper(letters, signs, window, burst, few, delay):
    """The least number of beats with more letters due than signs heard, by all beats up to 800."""
    due, heard = 0, 0
    for beat, flag in enumerate(round_pattern(burst, window - few, 800)):
        due += letters * (beat >= delay)
        heard += signs * (1 - flag)
        if due > heard:
            return round_pattern(burst, window - few, beat + 1), due, heard
    return None


class Shares(unittest.TestCase):
    def test_mixed_share(self):
        for window, burst, few in WINDOWS:
            due = due_share(window, burst, few)
            check_same(self, mixed_share(window, burst, few), (due.numerator, due.denominator))
        check_same(self, [mixed_share(2, 0, 0), mixed_share(4, 3, 1), mixed_share(4, 2, 2), mixed_share(7, 6, 6)],
                   [(1, 1), (1, 2), (1, 2), (1, 7)])
        good = {"window": 4, "burst": 3, "few": 2}
        check_errors(self, mixed_share, good, BAD_WINDOW)
        check_same(self, check_answer(self, mixed_share, good), (2, 5))

    def test_conditions_of_a_window(self):
        for window in range(2, 8):
            for value, error in bad_numbers(0, window - 1):
                for function in (mixed_share, lambda *numbers: mixed_code(Field(16), *numbers)):
                    check_error(self, error, "burst", function, window, value, None)
            for burst in range(window):
                for value, error in bad_numbers(min(1, burst), burst):
                    for function in (mixed_share, lambda *numbers: mixed_code(Field(2), *numbers)):
                        check_error(self, error, "few", function, window, burst, value)


class FewCodes(unittest.TestCase):
    def test_codes(self):
        for size in SIZES:
            for window in range(2, 8):
                for lost in range(window):
                    if window > size:
                        check_error(self, NotMade, None, few_code, Field(size), window, lost)
                        continue
                    code = few_code(field=Field(size), window=window, lost=lost)
                    checks = cauchy_checks(Field(size), window - lost, lost)
                    self.assertTrue(code == slant_code(Field(size), window - lost, lost, checks))
                    check_same(self, [code.letters, code.signs, code.plain], [window - lost, window, True])
                    self.assertEqual(code.field, Field(size))
                    self.assertLess(code.memory, window)

    def test_checks(self):
        for value, error in bad_numbers(2, 7):
            check_error(self, error, "window", few_code, Field(2), value, None)
        for window in range(2, 8):
            # A wrong number goes ahead of the field's being too small.
            for value, error in bad_numbers(0, window - 1):
                check_error(self, error, "lost", few_code, Field(2), window, value)

    def test_few_codes_mend(self):
        for size, window in ((2, 2), (3, 3), (4, 4), (5, 5), (16, 3), (7, 6)):
            for lost in range(window):
                code = few_code(Field(size), window, lost)
                if window < 6 or lost in (1, 5):
                    self.assertIsNotNone(yes_table(code, WindowRule(window, lost, lost), window - 1))
        # A delay below `window - 1` is too short.
        self.assertIsNone(yes_table(few_code(Field(4), 4, 2), WindowRule(4, 2, 2), 2))


class MixedCodes(unittest.TestCase):
    def test_codes(self):
        for size in SIZES:
            field = Field(size)
            for window, burst, few in WINDOWS:
                if few > 1 and window > size:
                    check_error(self, NotMade, None, mixed_code, field, window, burst, few)
                    continue
                found = mixed_code(field=field, window=window, burst=burst, few=few)
                self.assertIs(type(found), tuple)
                code, exact = found
                due = base_code(field, burst, window - 1) if few <= 1 else few_code(field, window, burst)
                self.assertTrue(code == due)
                self.assertIs(exact, few <= 1 or few == burst)
                share = fractions.Fraction(code.letters, code.signs)
                self.assertEqual(share == due_share(window, burst, few), exact)
                self.assertLessEqual(share, due_share(window, burst, few))

    def test_codes_mend_their_rule(self):
        for window, burst, few in WINDOWS:
            if window <= 4 or (window, burst, few) in ((5, 3, 2), (5, 2, 2), (6, 5, 1), (6, 3, 0), (7, 2, 1)):
                code, _ = mixed_code(Field(5), window, burst, few)
                self.assertIsNotNone(yes_table(code, WindowRule(window, burst, few), window - 1))

    def test_with_few_at_most_1_the_rule_is_that_of_bursts(self):
        for window, burst, few in WINDOWS:
            if few <= 1:
                self.assertIs(same_patterns(WindowRule(window, burst, few), BurstRule(burst, window - 1)), True)

    def test_codes_above_the_share_fail(self):
        numbers = Numbers(6)
        tried = 0
        for window, burst, few in WINDOWS:
            for letters, signs in ((1, 1), (2, 3), (3, 4), (1, 2), (4, 5)):
                if window > 4 or fractions.Fraction(letters, signs) <= due_share(window, burst, few):
                    continue
                for _ in range(4):
                    code = TimeCode(Field(2), letters, signs,
                                    [numbers.matrix(2, letters, signs) for _ in range(window)])
                    self.assertIsNotNone(shortest_failure(code, WindowRule(window, burst, few), window - 1))
                    tried += 1
        self.assertGreater(tried, 50)

    def test_checks(self):
        good = {"field": Field(5), "window": 4, "burst": 3, "few": 2}
        check_errors(self, mixed_code, good, BAD_WINDOW)
        check_error(self, BadNumber, "few", mixed_code, Field(2), 4, 2, 3)


class Papers(unittest.TestCase):
    def test_every_setting(self):
        plain = {}
        for setting in SETTINGS:
            letters, signs, window, burst, few, delay = setting
            paper = mixed_bar_paper(*setting)
            barred = letters * (window - few + burst) > signs * (window - few)
            self.assertIs(paper is not None, barred)
            key = (letters, signs, window - few, burst, delay)
            if key not in plain:
                plain[key] = plain_paper(*setting) if barred or len(plain) % 5 == 0 else None
            check_same(self, paper, plain[key])
            if barred:
                self.assertTrue(paper[0] in WindowRule(window, burst, few))
                self.assertLessEqual(len(paper[0]), (letters * delay + 1) * (window - few + burst))
        for setting in SETTINGS[::13]:
            paper = mixed_bar_paper(*setting)
            self.assertIs(is_mixed_bar_paper(*setting, paper), paper is not None)

    def test_told_papers(self):
        check_same(self, mixed_bar_paper(1, 1, 2, 1, 1, 1), ([1, 0, 1], 2, 1))
        check_same(self, mixed_bar_paper(2, 3, 3, 2, 2, 2), ([1, 1, 0, 1], 4, 3))
        self.assertIsNone(mixed_bar_paper(1, 3, 3, 2, 2, 2))
        self.assertIsNone(mixed_bar_paper(0, 1, 7, 6, 6, 6))

    def test_papers(self):
        setting = (2, 3, 3, 2, 2, 2)
        right = [([1, 1, 0, 1], 4, 3), ([1, 1, 0, 1, 1], 6, 3), ([1, 1, 0, 1, 1, 0], 8, 6),
                 ([1, 0, 1, 1, 0, 1, 1], 10, 6)]
        wrong = [([1, 1, 1, 1, 1], 6, 0), ([1, 1, 0, 1], 4, 2), ([1, 1, 0, 1], 4, 4), ([1, 1, 0, 1], 3, 3),
                 ([1, 1, 0, 1, 1], 6, True), ([1, 1, 0, 1, True], 6, 3), ((1, 1, 0, 1, 1), 6, 3),
                 [[1, 1, 0, 1, 1], 6, 3], ([1, 1, 0, 1, 1], 6), ([1, 1, 0, 1, 1], 6, 3, 0), ([1, 1, 0, 1, 1], "6", 3),
                 ([1, 1, 0, 1, 1], 6, None), ([1, 1, 0, 1, 2], 6, 3), ([], 0, 0), ([1, 1], 0, 0), ([0] * 9, 14, 27),
                 ([1, 1, 0, 1, 1], 5, 3), ([1, 1, 0, 1, 1], 6, 4)]
        check_papers(self, is_mixed_bar_paper, setting, right, wrong)
        # More losses than the window allows, though bursts with gaps allow them, are no pattern of the rule.
        flags = [1, 1, 0, 0, 1, 1, 0, 0, 1, 1]
        paper = (flags, *plain_counts(3, 4, 3, flags))
        self.assertGreater(paper[1], paper[2])
        self.assertIs(is_mixed_bar_paper(3, 4, 4, 2, 2, 3, paper), True)
        self.assertIs(is_mixed_bar_paper(3, 4, 4, 2, 1, 3, paper), False)

    def test_judged_by_the_plain_meaning(self):
        numbers = Numbers(9)
        for setting in SETTINGS[::11]:
            letters, signs, window, burst, few, delay = setting
            rule = WindowRule(window, burst, few)
            for pattern in (some_pattern(numbers, rule, 25), some_pattern(numbers, rule, delay + 1),
                            numbers.row(2, 9), round_pattern(burst, window - few, 60)):
                due, heard = plain_counts(letters, signs, delay, pattern)
                self.assertIs(is_mixed_bar_paper(*setting, (pattern, due, heard)), due > heard and pattern in rule)
                self.assertIs(is_mixed_bar_paper(*setting, (pattern, due + 1, heard)), False)

    def test_exactly_800_and_801_beats(self):
        for beats, due in ((799, True), (800, True), (801, False)):
            pattern = ([1, 0] * 401)[:beats]
            paper = (pattern, *plain_counts(1, 1, 1, pattern))
            self.assertIs(is_mixed_bar_paper(1, 1, 2, 1, 1, 1, paper), due)

    def test_checks(self):
        check_errors(self, mixed_bar_paper, GOOD, BAD)
        check_answer(self, mixed_bar_paper, {**GOOD, "signs": 4, "letters": 4})
        for paper in (None, ([1, 0, 1], 2, 1), ODD_PAPERS[-1]):
            check_errors(self, is_mixed_bar_paper, {**GOOD, "paper": paper}, BAD)
        for letters, signs in itertools.product(range(9), range(9)):
            if signs < max(1, letters):
                check_error(self, BadNumber, "signs", mixed_bar_paper, letters, signs, None, None, None, None)
        for window, burst, few in WINDOWS:
            for value, error in bad_numbers(window - 1, 6):
                check_error(self, error, "delay", mixed_bar_paper, 1, 2, window, burst, few, value)
        paper = ([1, 0, 1], 2, 1)
        named = {"paper": paper, "delay": 1, "few": 1, "burst": 1, "window": 2, "signs": 1, "letters": 1}
        self.assertIs(is_mixed_bar_paper(**named), True)


if __name__ == "__main__":
    unittest.main()
