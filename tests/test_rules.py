import itertools
import unittest

from mendsontime.errors import BadElement, BadNumber, BadShape
from mendsontime.rules import BurstRule, WindowRule

from helping import (
    NO_NUMBERS, Numbers, all_lists, alike, bad_numbers, bad_patterns, check_answer, check_call, check_error, check_same,
)

WINDOWS = [(window, burst, few) for window in range(2, 8) for burst in range(window)
           for few in range(min(1, burst), burst + 1)]


def plain_runs(pattern):
    """The lengths of the stretches and of the gaps between them."""
    parts = [(flag, len(list(group))) for flag, group in itertools.groupby(pattern)]
    while parts and not parts[0][0]:
        parts = parts[1:]
    while parts and not parts[-1][0]:
        parts = parts[:-1]
    return [many for flag, many in parts if flag], [many for flag, many in parts if not flag]


def keeps_burst(burst, gap, pattern):
    lost, heard = plain_runs(pattern)
    return all(many <= burst for many in lost) and all(many >= gap for many in heard)


def is_fair(flags, burst, few):
    text = "".join(map(str, flags))
    return text.count("1") <= few or (text.count("1") <= burst and "0" not in text.strip("0"))


def keeps_window(window, burst, few, pattern):
    flags = [0] * window + list(pattern)
    return all(is_fair(flags[end - window:end], burst, few) for end in range(window + 1, len(flags) + 1))


def plain_break(keeps, pattern):
    """The first beat with which the pattern does not keep the rule any longer."""
    return next((beat for beat in range(len(pattern)) if not keeps(pattern[:beat + 1])), None)


class Bursts(unittest.TestCase):
    def test_patterns_against_stretches_and_gaps(self):
        patterns = [pattern for beats in range(9) for pattern in all_lists(2, beats)]
        for burst, gap in itertools.product(range(4), range(1, 4)):
            rule = BurstRule(burst, gap)
            for pattern in patterns:
                due = plain_break(lambda part: keeps_burst(burst, gap, part), pattern)
                self.assertEqual(rule.first_break(pattern), due)
                self.assertIs(pattern in rule, due is None)

    def test_large_numbers(self):
        for burst, gap in ((8, 8), (8, 1), (1, 8), (0, 8), (7, 6)):
            rule = BurstRule(burst, gap)
            right = ([1] * burst + [0] * gap) * 5
            self.assertIsNone(rule.first_break(right))
            self.assertEqual(rule.first_break(right + [1] * (burst + 1)), len(right) + burst)
            if burst:
                self.assertEqual(rule.first_break(right[:-1] + [1]), len(right) - 1)
            self.assertIsNone(rule.first_break([0] * 30 + right))

    def test_states(self):
        rule = BurstRule(2, 3)
        self.assertEqual(rule.first_state(), 0)
        due = {(0, 0): 0, (0, 1): 1, (1, 0): 3, (1, 1): 2, (2, 0): 3, (2, 1): None,
               (3, 0): 4, (3, 1): None, (4, 0): 0, (4, 1): None}
        for (state, lost), following in due.items():
            check_same(self, rule.after(state, lost), following)

    def test_all_states_by_their_meaning(self):
        for burst, gap in itertools.product(range(9), range(1, 9)):
            rule = BurstRule(burst, gap)
            self.assertIs(type(rule.first_state()), int)
            for lost in range(burst):
                check_same(self, rule.after(lost, 1), lost + 1)
            check_same(self, rule.after(burst, 1), None)
            check_same(self, rule.after(0, 0), 0)
            for lost in range(1, burst + 1):
                check_same(self, rule.after(lost, 0), burst + 1 if gap > 1 else 0)
            if burst:
                for heard in range(1, gap):
                    check_same(self, rule.after(burst + heard, 0), burst + heard + 1 if heard + 1 < gap else 0)
                    check_same(self, rule.after(burst + heard, 1), None)

    def test_the_example(self):
        self.assertEqual(BurstRule(2, 2).first_break([1, 1, 0, 1, 0]), 3)

    def test_no_burst(self):
        rule = BurstRule(0, 5)
        self.assertEqual([rule.first_state(), rule.after(0, 0), rule.after(0, 1)], [0, 0, None])
        self.assertEqual(rule.first_break([0, 0, 1]), 2)
        self.assertTrue([0] * 800 in rule)

    def test_long_patterns(self):
        rule = BurstRule(3, 2)
        pattern = ([1, 1, 1, 0, 0] * 160)
        self.assertTrue(pattern in rule)
        self.assertEqual(rule.first_break(pattern[:799] + [1]), 799)
        for value, error in ((pattern + [0], BadShape), ([2] * 801, BadShape), (pattern[:799] + [2], BadElement)):
            check_error(self, error, "pattern", rule.first_break, value)
            check_error(self, error, "pattern", rule.__contains__, value)

    def test_properties(self):
        for burst, gap in itertools.product(range(9), range(1, 9)):
            check_same(self, [BurstRule(burst, gap).burst, BurstRule(burst, gap).gap], [burst, gap])

    def test_numbers(self):
        check_errors_of = {"burst": bad_numbers(0, 8), "gap": bad_numbers(1, 8)}
        good = {"burst": 2, "gap": 3}
        for name, bad in check_errors_of.items():
            for value, error in bad:
                check_error(self, error, name, BurstRule, **{**good, name: value})
        check_error(self, BadNumber, "burst", BurstRule, 9, 0)
        check_error(self, BadNumber, "gap", BurstRule, 0, 0)
        self.assertEqual(BurstRule(gap=3, burst=2), BurstRule(2, 3))


class Windows(unittest.TestCase):
    def test_patterns_against_plain_windows(self):
        patterns = [pattern for beats in range(9) for pattern in all_lists(2, beats)]
        for window, burst, few in WINDOWS:
            if window > 5:
                continue
            rule = WindowRule(window, burst, few)
            for pattern in patterns:
                due = plain_break(lambda part: keeps_window(window, burst, few, part), pattern)
                self.assertEqual(rule.first_break(pattern), due)
                self.assertIs(pattern in rule, due is None)

    def test_wide_windows(self):
        numbers = Numbers(4)
        for window, burst, few in WINDOWS:
            if window < 6:
                continue
            rule = WindowRule(window, burst, few)
            for _ in range(40):
                pattern = [int(numbers.below(3) == 0) for _ in range(14)]
                due = plain_break(lambda part: keeps_window(window, burst, few, part), pattern)
                self.assertEqual(rule.first_break(pattern), due)

    def test_states_are_the_last_flags(self):
        for window, burst, few in WINDOWS:
            rule = WindowRule(window, burst, few)
            check_same(self, rule.first_state(), (0,) * (window - 1))
            flags, state = [0] * window, rule.first_state()
            numbers = Numbers(window * 64 + burst * 8 + few)
            for _ in range(60):
                lost = numbers.below(2)
                following = rule.after(state, lost)
                if is_fair((flags + [lost])[-window:], burst, few):
                    flags.append(lost)
                    state = following
                    check_same(self, state, tuple(flags[1 - window:]))
                else:
                    self.assertEqual(lost, 1)
                    self.assertIsNone(following)

    def test_the_example(self):
        self.assertTrue([1, 1, 0, 0, 1] in WindowRule(3, 2, 1))
        self.assertIs(WindowRule(3, 2, 1).__contains__([1, 1, 0, 0, 1]), True)

    def test_few_and_burst(self):
        rule = WindowRule(4, 3, 2)
        for flags in ([1, 0, 1, 0], [1, 0, 0, 1], [1, 1, 1, 0], [0, 1, 1, 1], [0, 0, 1, 1]):
            self.assertTrue(flags in rule, flags)
        for flags, beat in (([1, 1, 0, 1], 3), ([1, 0, 1, 1], 3), ([1, 1, 1, 1], 3), ([1, 0, 1, 0, 1, 1], 5)):
            self.assertEqual(rule.first_break(flags), beat)
        # Windows that reach behind the end are not asked, and beats ahead of beat 0 count as heard.
        self.assertTrue([1, 1, 1] in rule)
        self.assertTrue([] in rule)
        self.assertEqual(WindowRule(4, 0, 0).first_break([0, 0, 1]), 2)

    def test_a_heard_beat_never_breaks(self):
        for rule in [WindowRule(*numbers) for numbers in WINDOWS] + [BurstRule(3, 4), BurstRule(1, 1)]:
            states, seen = [rule.first_state()], []
            while states:
                state = states.pop()
                if state in seen:
                    continue
                seen.append(state)
                self.assertIsNotNone(rule.after(state, 0))
                states.extend(found for found in (rule.after(state, 0), rule.after(state, 1)) if found is not None)

    def test_long_patterns(self):
        rule = WindowRule(7, 6, 1)
        pattern = [1, 1, 1, 1, 1, 1, 0, 0, 0, 0, 0, 0] * 66 + [0] * 8
        self.assertEqual(len(pattern), 800)
        self.assertTrue(pattern in rule)
        self.assertEqual(rule.first_break(pattern[:792] + [1, 0, 0, 0, 0, 0, 1, 0]), 798)
        check_error(self, BadShape, "pattern", rule.first_break, pattern + [0])

    def test_properties(self):
        for window, burst, few in WINDOWS:
            rule = WindowRule(window, burst, few)
            check_same(self, [rule.window, rule.burst, rule.few], [window, burst, few])

    def test_numbers(self):
        for value, error in bad_numbers(2, 7):
            check_error(self, error, "window", WindowRule, value, None, None)
        for window in range(2, 8):
            for value, error in bad_numbers(0, window - 1):
                check_error(self, error, "burst", WindowRule, window, value, -1)
            for burst in range(window):
                for value, error in bad_numbers(min(1, burst), burst):
                    check_error(self, error, "few", WindowRule, window, burst, value)
        check_error(self, BadNumber, "few", WindowRule, 5, 2, 0)
        check_error(self, BadNumber, "few", WindowRule, 5, 0, 1)
        self.assertEqual(WindowRule(5, 0, 0).few, 0)
        self.assertEqual(WindowRule(few=1, burst=2, window=3), WindowRule(3, 2, 1))


class BothClasses(unittest.TestCase):
    def test_after_checks_the_beat(self):
        for rule in (BurstRule(2, 2), WindowRule(3, 1, 1)):
            for value, error in bad_numbers(0, 1):
                check_error(self, error, "lost", rule.after, rule.first_state(), value)
            good = {"state": rule.first_state(), "lost": 1}
            check_answer(self, rule.after, good)
            check_answer(self, rule.first_state, {})

    def test_patterns_are_checked(self):
        for rule in (BurstRule(2, 2), WindowRule(3, 2, 1)):
            good, bad = {"pattern": [0, 1, 1, 0, 1]}, bad_patterns([0, 1, 1, 0, 1], exact=False)
            check_call(self, rule.first_break, good, {"pattern": bad})
            for value, error in bad:
                check_error(self, error, "pattern", rule.__contains__, value)
            pattern = [1, 1, 0, 0, 1]
            self.assertIn(rule.__contains__(pattern), (True, False))
            self.assertEqual(pattern, [1, 1, 0, 0, 1])

    def test_equal_states_serve(self):
        rule = WindowRule(3, 2, 1)
        self.assertEqual(rule.after(tuple([0, 1]), 1), (1, 1))
        self.assertEqual(WindowRule(3, 2, 1).after(rule.after((0, 0), 1), 0), (1, 0))

    def test_equal_rules(self):
        rules = [BurstRule(burst, gap) for burst in range(3) for gap in (1, 2)]
        rules += [WindowRule(window, burst, 1) for window in (3, 4) for burst in (1, 2)] + [WindowRule(4, 2, 2)]
        again = [BurstRule(burst, gap) for burst in range(3) for gap in (1, 2)]
        again += [WindowRule(window, burst, 1) for window in (3, 4) for burst in (1, 2)] + [WindowRule(4, 2, 2)]
        for i, rule in enumerate(rules):
            for j, other in enumerate(again):
                self.assertIs(rule == other, i == j)
                self.assertIs(rule != other, i != j)
            for value in list(NO_NUMBERS) + [2, "BurstRule(2, 2)", (2, 2)]:
                self.assertIs(rule == value, False)

    def test_rules_stay_as_they_are(self):
        rule = BurstRule(2, 3)
        for name in ("burst", "gap"):
            with self.assertRaises(AttributeError):
                setattr(rule, name, 1)
        for name in ("window", "burst", "few"):
            with self.assertRaises(AttributeError):
                setattr(WindowRule(3, 2, 1), name, 1)
        self.assertTrue(alike([rule.burst, rule.gap], [2, 3]))


if __name__ == "__main__":
    unittest.main()
