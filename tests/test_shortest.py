import itertools
import unittest

from mendsontime.burstmake import Making, base_code
from mendsontime.errors import BadNumber, TooLarge
from mendsontime.field import Field
from mendsontime.judge import is_yes, yes_table
from mendsontime.machine import all_patterns
from mendsontime.reason import mends
from mendsontime.rules import BurstRule, WindowRule
from mendsontime.shortest import failure_by_all, is_failure, is_judged, judged, shortest_failure
from mendsontime.timecode import TimeCode

from helping import (
    ODD_PAPERS, Chain, Ladder, Numbers, Steps, all_streams, bad_numbers, check_answer, check_error, check_errors,
    check_papers, check_same, plain_heard,
)


def some_codes(many):
    numbers = Numbers(many)
    for _ in range(many):
        size, letters, signs = (2, 3, 4, 2, 16)[numbers.below(5)], 1 + numbers.below(2), 1 + numbers.below(3)
        taps = [[[numbers.below(size) * numbers.below(2) for _ in range(signs)] for _ in range(letters)]
                for _ in range(1 + numbers.below(4))]
        yield TimeCode(Field(size), letters, signs, taps)


RULES = ((BurstRule(1, 1), 1), (BurstRule(1, 2), 2), (BurstRule(2, 2), 2), (WindowRule(3, 1, 1), 2),
         (WindowRule(4, 2, 2), 3), (BurstRule(0, 1), 1), (BurstRule(1, 3), 2), (BurstRule(3, 1), 1))


def plain_failure(code, rule, delay, beats):
    """The first pattern, by length and then ascending, that keeps the rule and is not mended."""
    for many in range(1, beats + 1):
        for pattern in all_patterns(rule, many):
            if not mends(code, delay, pattern):
                return pattern
    return None


def fails(code, rule, delay, pattern, stream):
    """Whether pattern and stream are a failure, by the words of the document."""
    silent = not any(any(signs or []) for signs in plain_heard(code, stream, pattern))
    return pattern in rule and len(pattern) > delay and silent and any(stream[len(pattern) - 1 - delay])


class Shortest(unittest.TestCase):
    def test_against_all_patterns(self):
        found = 0
        for code in some_codes(50):
            for rule, delay in RULES:
                failure = shortest_failure(code, rule, delay)
                tried = failure_by_all(code, rule, delay, 7)
                if failure is None:
                    self.assertIsNone(tried)
                    self.assertIsNotNone(yes_table(code, rule, delay))
                    continue
                pattern, stream = failure
                self.assertEqual(tried, pattern if len(pattern) <= 7 else None)
                self.assertIsNone(yes_table(code, rule, delay))
                self.assertTrue(fails(code, rule, delay, pattern, stream))
                self.assertIs(is_failure(code, rule, delay, failure), True)
                # The rows ahead of the letters that fail are zeros.
                self.assertFalse(any(any(row) for row in stream[:len(pattern) - 1 - delay]))
                self.assertIs(mends(code, delay, pattern), False)
                found += 1
        self.assertGreater(found, 100)

    def test_told_failures(self):
        plain = TimeCode(Field(2), 1, 1, [[[1]]])
        check_same(self, shortest_failure(plain, BurstRule(1, 1), 1), ([1, 0], [[1], [0]]))
        check_same(self, shortest_failure(plain, BurstRule(2, 1), 3), ([1, 0, 0, 0], [[1], [0], [0], [0]]))
        pattern, stream = shortest_failure(base_code(Field(3), 1, 2), BurstRule(2, 2), 2)
        self.assertEqual(pattern, [1, 1, 0])
        self.assertIs(is_failure(base_code(Field(3), 1, 2), BurstRule(2, 2), 2, (pattern, stream)), True)
        # The delay is too short for the late letters.
        self.assertEqual(shortest_failure(base_code(Field(2), 1, 2), BurstRule(1, 2), 1)[0], [1, 0])

    def test_a_late_failure(self):
        # The rule allows its losses only far behind beat 0.
        code = TimeCode(Field(3), 2, 2, [[[1, 0], [0, 1]], [[0, 0], [0, 2]]])
        for first in (7, 100, 390):
            rule = Steps(500, (first, first + 1))
            pattern, stream = shortest_failure(code, rule, 2)
            # One lost beat loses a letter for good; of the beats behind it the heard ones come first in list order.
            self.assertEqual(pattern, [0] * first + [1, 0, 0])
            self.assertEqual(len(stream), first + 3)
            self.assertFalse(any(any(row) for row in stream[:first]))
            self.assertTrue(any(stream[first]))
            self.assertIs(is_failure(code, rule, 2, (pattern, stream)), True)

    def test_patterns_of_as_many_beats_as_the_table_has_rows(self):
        code = TimeCode(Field(2), 1, 1, [[[1]]])
        for bound in (2, 9, 400):
            # A state for each beat: the last one that fits loses its beat, and the next beat fails.
            rule = Chain(bound - 1)
            pattern, stream = shortest_failure(code, rule, 1, bound=bound)
            self.assertEqual(pattern, [0] * (bound - 2) + [1, 0])
            self.assertEqual(stream, [[0]] * (bound - 2) + [[1], [0]])
            for function in (shortest_failure, judged, yes_table):
                if bound > 2:
                    with self.assertRaises(TooLarge) as caught:
                        function(code, rule, 1, bound=bound - 1)
                    check_same(self, caught.exception.bound, bound - 1)

    def test_without_letters(self):
        code = TimeCode(Field(2), 0, 2, [[]])
        for rule, delay in RULES:
            self.assertIsNone(shortest_failure(code, rule, delay))
            check_papers(self, is_failure, (code, rule, delay), [],
                         [([0] * (delay + 1), [[]] * (delay + 1)), ([0] * 8, [[] for _ in range(8)]), ([], [])])

    def test_bounds(self):
        code = TimeCode(Field(2), 1, 1, [[[1]]])
        self.assertEqual(shortest_failure(code, Ladder(900, False), 1, bound=2)[0], [1, 0])
        self.assertEqual(judged(code, Ladder(900, False), 1, bound=2)[:2], ("no", [1, 0]))
        for function in (shortest_failure, judged):
            for bound in (1, 5, 400):
                rule = Ladder(900, False) if bound == 1 else Steps(900)
                with self.assertRaises(TooLarge) as caught:
                    function(code, rule, 1, bound=bound)
                check_same(self, caught.exception.bound, bound)
            with self.assertRaises(TooLarge) as caught:
                function(code, Steps(900), 1)
            self.assertEqual(caught.exception.bound, 400)
        self.assertIsNone(shortest_failure(code, Steps(399), 1))
        self.assertEqual(judged(code, Steps(4), 1, bound=5), ("yes", yes_table(code, Steps(4), 1)))

    def test_checks(self):
        code, rule = base_code(Field(2), 1, 1), BurstRule(1, 1)
        for function in (shortest_failure, judged):
            check_errors(self, lambda code, rule, delay, bound: function(code, rule, delay, bound=bound),
                         {"code": code, "rule": rule, "delay": 1, "bound": 9},
                         {"delay": bad_numbers(1, 6), "bound": bad_numbers(1, 400)})
            check_error(self, BadNumber, "delay", function, code, Steps(900), 7, bound=1)
        for paper in (None, ([1, 0], [[1], [0]]), ODD_PAPERS[-1]):
            for function in (is_failure, is_judged):
                check_errors(self, function, {"code": code, "rule": rule, "delay": 1, "paper": paper},
                             {"delay": bad_numbers(1, 6)})
        check_errors(self, failure_by_all, {"code": code, "rule": rule, "delay": 1, "beats": 3},
                     {"delay": bad_numbers(1, 6), "beats": bad_numbers(0, 8)})

    def test_answers_are_new(self):
        for code in (TimeCode(Field(2), 1, 1, [[[1]]]), base_code(Field(3), 2, 3)):
            for rule, delay in ((BurstRule(1, 1), 1), (BurstRule(2, 3), 3)):
                good = {"code": code, "rule": rule, "delay": delay}
                check_answer(self, shortest_failure, good)
                check_answer(self, judged, good)
                check_answer(self, failure_by_all, {**good, "beats": 5})


class ByAll(unittest.TestCase):
    def test_the_first_pattern(self):
        for code in some_codes(15):
            for rule, delay in RULES:
                for beats in (0, 1, 3, 6):
                    check_same(self, failure_by_all(code, rule, delay, beats),
                               plain_failure(code, rule, delay, beats))

    def test_shorter_ones_first(self):
        code = TimeCode(Field(2), 1, 1, [[[1]]])
        check_same(self, [failure_by_all(code, BurstRule(1, 1), 2, beats) for beats in (0, 1, 2, 3, 8)],
                   [None, None, None, [1, 0, 0], [1, 0, 0]])
        check_same(self, failure_by_all(code, BurstRule(0, 1), 1, 8), None)
        check_same(self, failure_by_all(code, WindowRule(3, 2, 2), 1, 8), [1, 0])

    def test_short_patterns_are_always_mended(self):
        code = TimeCode(Field(2), 1, 1, [[[0]]])
        for delay in range(1, 7):
            self.assertIsNone(failure_by_all(code, BurstRule(8, 1), delay, delay))
            self.assertEqual(failure_by_all(code, BurstRule(8, 1), delay, delay + 1), [0] * (delay + 1))

    def test_the_largest_codes(self):
        units = [[int(i == j) for j in range(12)] for i in range(12)]
        code = TimeCode(Field(2), 12, 12, [units])
        self.assertIsNone(failure_by_all(code, BurstRule(0, 1), 1, 8))
        self.assertEqual(failure_by_all(code, BurstRule(1, 8), 6, 8), [1, 0, 0, 0, 0, 0, 0])


class Failures(unittest.TestCase):
    def test_every_pair_of_a_small_code(self):
        for code in (TimeCode(Field(2), 1, 1, [[[1]], [[1]]]), TimeCode(Field(3), 1, 1, [[[1]]]),
                     TimeCode(Field(2), 2, 1, [[[1], [1]]])):
            for rule, delay in ((BurstRule(1, 1), 1), (WindowRule(3, 2, 1), 2)):
                for beats in (1, 2, 3):
                    for pattern in map(list, itertools.product((0, 1), repeat=beats)):
                        for stream in all_streams(code.field.size, code.letters, beats):
                            due = beats > delay and fails(code, rule, delay, pattern, stream)
                            self.assertIs(is_failure(code, rule, delay, (pattern, stream)), due)

    def test_papers(self):
        code, rule = TimeCode(Field(3), 1, 1, [[[1]]]), BurstRule(1, 1)
        right = [([1, 0], [[1], [0]]), ([1, 0], [[2], [0]]), ([0, 1, 0], [[0], [2], [0]]),
                 ([1, 0, 1, 0], [[2], [0], [1], [0]]), ([0, 1, 0, 1, 0, 1, 0], [[0], [0], [0], [2], [0], [1], [0]])]
        wrong = [([1, 0], [[0], [0]]), ([1, 0], [[1], [1]]), ([1, 1], [[1], [0]]), ([0, 0], [[1], [0]]),
                 ([1, 0, 0], [[1], [0], [0]]), ([1], [[1]]), ([], []), ([1, 0], [[1]]), ([1, 0], [[1], [0], [0]]),
                 [[1, 0], [[1], [0]]], ((1, 0), [[1], [0]]), ([1, 0], ([1], [0])), ([1, 0], [(1,), (0,)]),
                 ([True, False], [[1], [0]]), ([1, 0], [[True], [0]]), ([1, 0], [[1], [False]]), ([1, 0], [[1], [3]]),
                 ([1, 0], [[1], [0, 0]]), ([1, 0], [[1], []]), ([1, 0], [[1], None]), ([1, 0], None), ([1, 0],),
                 ([1, 0], [[1], [0]], 0), ([1, 2], [[1], [0]]), ([1, None], [[1], [0]]), ("10", [[1], [0]]),
                 ([1, 0], [[-2], [0]]), ([1, 0], [["1"], [0]]), (None, None), ([1, 0], [1, 0])]
        check_papers(self, is_failure, (code, rule, 1), right, wrong)

    def test_exactly_401_and_402_beats(self):
        code, rule = TimeCode(Field(2), 1, 1, [[[1]]]), BurstRule(1, 1)
        for beats, due in ((400, True), (401, True), (402, False)):
            pattern = [0] * (beats - 2) + [1, 0]
            stream = [[0] for _ in range(beats - 2)] + [[1], [0]]
            self.assertIs(is_failure(code, rule, 1, (pattern, stream)), due)
            self.assertIs(is_judged(code, rule, 1, ("no", pattern, stream)), due)
        for delay in range(1, 7):
            for beats in (delay, delay + 1):
                pattern, stream = [1] + [0] * (beats - 1), [[1]] + [[0] for _ in range(beats - 1)]
                self.assertIs(is_failure(code, rule, delay, (pattern, stream)), beats > delay)

    def test_the_pattern_need_not_be_shortest(self):
        code, rule = base_code(Field(2), 1, 2), BurstRule(2, 2)
        pattern, stream = shortest_failure(code, rule, 2)
        longer = ([0, 0, 1, 0, 0] + pattern, [[0, 0] for _ in range(5)] + stream)
        self.assertIs(is_failure(code, rule, 2, longer), True)
        self.assertIs(is_failure(code, BurstRule(1, 2), 2, longer), False)
        self.assertIs(is_failure(code, WindowRule(3, 2, 1), 2, longer), True)
        # Rows of other beats may be anything that fits: a letter may be lost at the lost beat ahead.
        longer[1][2] = [0, 0]
        self.assertIs(is_failure(code, rule, 2, longer), True)
        longer[1][2] = [0, 1]
        self.assertIs(is_failure(code, rule, 2, longer), False)


class Judged(unittest.TestCase):
    def test_both_words(self):
        for code in list(some_codes(20)) + [base_code(Field(3), 2, 3), Making(Field(2), 1, 2, 2, 2).code]:
            for rule, delay in RULES + ((BurstRule(2, 3), 3),):
                found = judged(code, rule, delay)
                table, failure = yes_table(code, rule, delay), shortest_failure(code, rule, delay)
                check_same(self, found, ("yes", table) if failure is None else ("no", *failure))
                self.assertIs(is_judged(code, rule, delay, found), True)

    def test_papers_that_say_yes(self):
        code, rule = base_code(Field(2), 1, 1), BurstRule(1, 1)
        table = yes_table(code, rule, 1)
        self.assertIs(is_yes(code, rule, 1, table), True)
        wrong = [("no", table), ("Yes", table), ("yes", table, None), ["yes", table], ("yes",), ("yes", table[:1]),
                 ("yes", tuple(table)), ("yes", None), (table,), table, ("yes", []), (None, table), (["yes"], table),
                 ("yes", [1, 0], [[1], [0]]), ("no", [1, 0], [[1], [0]]), (True, table), (1, table)]
        check_papers(self, is_judged, (code, rule, 1), [("yes", table)], wrong)

    def test_papers_that_say_no(self):
        code, rule = TimeCode(Field(2), 1, 1, [[[1]]]), BurstRule(1, 1)
        right = [("no", [1, 0], [[1], [0]]), ("no", [0, 1, 0], [[0], [1], [0]])]
        wrong = [("yes", [1, 0], [[1], [0]]), ("no", ([1, 0], [[1], [0]])), ["no", [1, 0], [[1], [0]]],
                 ([1, 0], [[1], [0]]), ("no", [1, 0], [[1], [0]], None), ("no", [1, 0]), ("no", [1, 0], [[0], [0]]),
                 ("no", (1, 0), [[1], [0]]), ("NO", [1, 0], [[1], [0]]), (None, [1, 0], [[1], [0]]),
                 ("no", None, None), ("no", [], []), (["no"], [1, 0], [[1], [0]])]
        check_papers(self, is_judged, (code, rule, 1), right, wrong)


if __name__ == "__main__":
    unittest.main()
