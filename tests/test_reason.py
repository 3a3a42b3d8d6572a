import functools
import itertools
import unittest

from mendsontime.burstmake import base_code
from mendsontime.errors import BadNumber, BadShape, TooLarge
from mendsontime.field import Field
from mendsontime.reason import (
    determined, is_reason, is_silence, mends, reason_for, silence_for, told_beats,
)
from mendsontime.solve import factors_for
from mendsontime.timecode import TimeCode

from helping import (
    ODD_PAPERS, Numbers, all_lists, all_streams, bad_numbers, bad_patterns, check_answer, check_error, check_errors,
    check_papers, check_same, plain_heard, plain_signs, plain_sum,
)


def small_codes():
    """Codes so small that all streams of some beats can be tried, with the most beats."""
    yield TimeCode(Field(2), 1, 1, [[[1]]]), 5
    yield TimeCode(Field(2), 1, 1, [[[0]], [[1]]]), 5
    yield TimeCode(Field(2), 1, 1, [[[1]], [[1]], [[1]]]), 5
    yield TimeCode(Field(2), 1, 2, [[[1, 0]], [[0, 1]]]), 5
    yield TimeCode(Field(2), 1, 2, [[[1, 1]], [[0, 0]], [[1, 0]]]), 5
    yield TimeCode(Field(2), 1, 1, [[[0]]]), 3
    yield TimeCode(Field(3), 1, 1, [[[2]], [[1]]]), 4
    yield TimeCode(Field(4), 1, 1, [[[2]], [[3]]]), 3
    yield TimeCode(Field(2), 2, 1, [[[1], [0]], [[0], [1]]]), 4
    yield TimeCode(Field(2), 2, 2, [[[1, 1], [0, 1]], [[0, 1], [0, 0]]]), 3
    yield TimeCode(Field(2), 2, 3, [[[1, 0, 0], [0, 1, 0]], [[0, 0, 1], [0, 0, 0]], [[0, 0, 0], [0, 0, 1]]]), 3
    yield TimeCode(Field(3), 2, 1, [[[1], [2]]]), 2
    yield TimeCode(Field(2), 0, 2, [[]]), 3


def small_cases():
    for code, most in small_codes():
        for beats in range(most + 1):
            for pattern in all_lists(2, beats):
                yield code, pattern


def plain_told(code, pattern, sent):
    """For each letter the first beat by which it is the same in all streams of the same heard signs, or None.

    `sent` has all streams of so many beats, each with the list of its sign rows.
    """
    found = [[None] * code.letters for _ in pattern]
    for last in reversed(range(len(pattern))):
        heard = [beat for beat in range(last + 1) if not pattern[beat]]
        groups = {}
        for rows, signs in sent:
            groups.setdefault(tuple(signs[beat] for beat in heard), []).append(rows)
        for beat, place in itertools.product(range(len(pattern)), range(code.letters)):
            if all(len({rows[beat][place] for rows in group}) == 1 for group in groups.values()):
                found[beat][place] = last
    return found


def all_sent(code, beats):
    """All streams of so many beats, each with the list of its sign rows."""
    return [(rows, [tuple(plain_signs(code, rows, beat)) for beat in range(beats)])
            for rows in all_streams(code.field.size, code.letters, beats)]


@functools.cache
def told_cases():
    """All small cases with the beats by which their letters are told."""
    return [(code, pattern, plain_told(code, pattern, sent))
            for code, most in small_codes() for beats in range(most + 1) for sent in [all_sent(code, beats)]
            for pattern in all_lists(2, beats)]


def plain_fact(code, beats, beat, sign):
    """The fact of a sign: its products with the unit streams."""
    row = []
    for at, place in itertools.product(range(beats), range(code.letters)):
        rows = [[int((i, j) == (at, place)) for j in range(code.letters)] for i in range(beats)]
        row.append(plain_signs(code, rows, beat)[sign])
    return row


def plain_facts(code, pattern):
    """The heard signs and their facts, ascending."""
    signs = [(beat, sign) for beat, flag in enumerate(pattern) if not flag for sign in range(code.signs)]
    return signs, [plain_fact(code, len(pattern), beat, sign) for beat, sign in signs]


def wide_code(letters, signs, memory, size=2):
    numbers = Numbers(letters + signs)
    units = [[int(i == j) for j in range(signs)] for i in range(letters)]
    return TimeCode(Field(size), letters, signs,
                    [units] + [numbers.matrix(size, letters, signs) for _ in range(memory)])


class PlainMeaning(unittest.TestCase):
    def test_told_beats_and_determined(self):
        for code, pattern, due in told_cases():
            check_same(self, told_beats(code, pattern), due)
            check_same(self, determined(code, pattern), [[told is not None for told in row] for row in due])

    def test_mends(self):
        for code, pattern, told in told_cases():
            for delay in range(1, 7):
                due = all(moment is not None and moment <= beat + delay
                          for beat, row in enumerate(told) if beat + delay < len(pattern) for moment in row)
                self.assertIs(mends(code, delay, pattern), due)

    def test_reasons_and_silences(self):
        for code, pattern, told in told_cases():
            signs, facts = plain_facts(code, pattern)
            width = len(pattern) * code.letters
            for beat, place in itertools.product(range(len(pattern)), range(code.letters)):
                unit = [int(at == beat * code.letters + place) for at in range(width)]
                reason = reason_for(code, pattern, beat, place)
                silence = silence_for(code, pattern, beat, place)
                if told[beat][place] is not None:
                    # The factors of the one form, with those that are 0 left out.
                    factors = factors_for(code.field, width, facts, unit)
                    check_same(self, reason, [(b, s, factor) for (b, s), factor in zip(signs, factors) if factor])
                    self.assertIs(is_reason(code, pattern, beat, place, reason), True)
                    self.assertIsNone(silence)
                else:
                    self.assertIsNone(reason)
                    self.assertEqual([len(row) for row in silence], [code.letters] * len(pattern))
                    self.assertNotEqual(silence[beat][place], 0)
                    for signs_of in plain_heard(code, silence, pattern):
                        self.assertTrue(signs_of is None or not any(signs_of))
                    self.assertIs(is_silence(code, pattern, beat, place, silence), True)

    def test_every_silence(self):
        for code, pattern in small_cases():
            if len(pattern) > 3:
                continue
            for rows in all_streams(code.field.size, code.letters, len(pattern)):
                silent = not any(any(signs or []) for signs in plain_heard(code, rows, pattern))
                for beat, place in itertools.product(range(len(pattern)), range(code.letters)):
                    self.assertIs(is_silence(code, pattern, beat, place, rows), silent and rows[beat][place] != 0)

    def test_every_reason_of_a_small_code(self):
        code = TimeCode(Field(3), 1, 2, [[[1, 2]], [[0, 1]]])
        for pattern in ([0, 0], [0, 1], [1, 0]):
            signs, facts = plain_facts(code, pattern)
            for factors in all_lists(3, len(signs)):
                paper = [(b, s, factor) for (b, s), factor in zip(signs, factors) if factor]
                total = [plain_sum(code.field, factors, [fact[at] for fact in facts]) for at in range(2)]
                for beat in range(2):
                    due = total == [int(at == beat) for at in range(2)]
                    self.assertIs(is_reason(code, pattern, beat, 0, paper), due)

    def test_larger_codes(self):
        for size, letters, signs, memory, beats in ((16, 3, 4, 5, 10), (5, 4, 6, 2, 9), (9, 12, 12, 12, 4),
                                                    (7, 2, 1, 3, 12)):
            numbers = Numbers(size)
            code = TimeCode(Field(size), letters, signs,
                            [numbers.matrix(size, letters, signs) for _ in range(memory + 1)])
            pattern = [int(numbers.below(3) == 0) for _ in range(beats)]
            told, known = told_beats(code, pattern), determined(code, pattern)
            for beat, place in itertools.product(range(beats), range(letters)):
                reason = reason_for(code, pattern, beat, place)
                silence = silence_for(code, pattern, beat, place)
                self.assertIs(known[beat][place], reason is not None)
                self.assertIs(known[beat][place], silence is None)
                if reason is not None:
                    self.assertIs(is_reason(code, pattern, beat, place, reason), True)
                    # The beat by which it was told is the first one whose beginning of the pattern determines it.
                    first = told[beat][place]
                    self.assertIs(determined(code, pattern[:first + 1])[beat][place], True)
                    self.assertTrue(first == beat or not determined(code, pattern[:first])[beat][place])
                else:
                    self.assertIsNone(told[beat][place])
                    self.assertIs(is_silence(code, pattern, beat, place, silence), True)

    def test_a_base_code(self):
        code = base_code(Field(3), 2, 3)
        check_same(self, told_beats(code, [0, 1, 1, 0, 0, 0]),
                   [[0] * 3, [3, 4, 4], [3, 5, 5], [3] * 3, [4] * 3, [5] * 3])
        self.assertIs(mends(code, 3, [0, 1, 1, 0, 0, 0, 1]), True)
        self.assertIs(mends(code, 3, [0, 1, 1, 1, 0, 0, 0]), False)
        self.assertIs(mends(code, 2, [0, 1, 1, 0, 0, 0]), False)


class Papers(unittest.TestCase):
    def test_reasons(self):
        code = TimeCode(Field(3), 1, 2, [[[1, 2]], [[0, 1]]])
        # The signs of a lost beat are no part of a reason, though they would give the letter.
        check_papers(self, is_reason, (code, [1, 0], 1, 0), [[(1, 0, 1)]], [[(0, 0, 1), (0, 1, 1), (1, 0, 1)]])
        check_papers(self, is_reason, (code, [1, 0], 0, 0), [[(1, 0, 1), (1, 1, 1)]],
                     [[(0, 0, 1)], [(0, 0, 2), (1, 0, 2), (1, 1, 2)]])
        check_papers(self, is_reason, (code, [0, 0], 1, 0), [[(1, 0, 1)]], [[(-1, 0, 1)], [(1, -2, 1)], [(2, 0, 1)]])
        good = (code, [0, 1, 0], 0, 0)
        right = [[(0, 0, 1)], [(0, 1, 2)], [(0, 0, 2), (0, 1, 1)]]
        wrong = [[], [(0, 0, 2)], [(0, 1, 1)], [(0, 1, 1), (0, 0, 2)], [(0, 0, 2), (0, 0, 2)], [(0, 0, 1), (2, 0, 0)],
                 [(0, 0, 1), (1, 0, 1)], [(0, 0, 0), (0, 1, 2)], [(0, 0, 1), (0, 1, 0)], [(0, 0, 4)], [(0, 0, 3)], [(0, 0, -2)],
                 [(False, 0, 1)], [(0, False, 1)], [(0, 0, True)], [[0, 0, 1]], ((0, 0, 1),), [(0, 0)],
                 [(0, 0, 1, 0)], [(0, 2, 1)], [(0, -1, 2)], [(-3, 0, 1)], [(3, 0, 1)], [("0", 0, 1)], [(0, None, 1)],
                 [(0, 0, [1])], [None], (0, 0, 1), [(0, 0, 1), None], [(0, 0, 1)] * 7, [[(0, 0, 1)]]]
        check_papers(self, is_reason, good, right, wrong)

    def test_signs_ascend_by_beat_then_sign(self):
        code = TimeCode(Field(2), 1, 2, [[[1, 1]]])
        check_papers(self, is_reason, (code, [0, 0], 1, 0), [[(1, 0, 1)], [(1, 1, 1)],
                                                             [(0, 0, 1), (0, 1, 1), (1, 0, 1)]],
                     [[(0, 1, 1), (0, 0, 1), (1, 0, 1)], [(1, 0, 1), (0, 0, 1), (0, 1, 1)],
                      [(1, 0, 1), (1, 0, 1), (1, 0, 1)], [(0, 0, 1), (1, 0, 1)]])

    def test_silences(self):
        code = TimeCode(Field(3), 2, 1, [[[1], [2]], [[1], [0]]])
        good = (code, [0, 1], 0, 1)
        right = [[[1, 1], [0, 0]], [[2, 2], [1, 2]]]
        wrong = [[[0, 0], [1, 1]], [[1, 0], [0, 0]], [[1, 2], [0, 0]], [[1, 1]], [[1, 1], [0, 0], [0, 0]],
                 ([1, 1], [0, 0]), [(1, 1), (0, 0)], [[1, True], [0, 0]], [[1, 1], [False, 0]], [[1, 1], [0]],
                 [[1, 1], [0, 0, 0]], [[1, 1], None], [[1, 1], [0, 3]], [[1, 1], [0, -1]], [[1, 1], ["0", 0]],
                 [1, 1, 0, 0], []]
        check_papers(self, is_silence, good, right, wrong)
        check_papers(self, is_silence, (code, [1, 0], 0, 0), [[[1, 0], [2, 0]], [[1, 0], [0, 1]]],
                     [[[1, 0], [0, 0]], [[0, 1], [0, 0]]])

    def test_no_paper_of_the_other_kind(self):
        for code, pattern in small_cases():
            if code.letters != 1 or len(pattern) != 3:
                continue
            for beat in range(3):
                if reason_for(code, pattern, beat, 0) is None:
                    self.assertIs(is_reason(code, pattern, beat, 0, []), False)
                else:
                    for rows in all_streams(code.field.size, 1, 3):
                        self.assertIs(is_silence(code, pattern, beat, 0, rows), False)


class Bounds(unittest.TestCase):
    def calls(self, code, pattern, beat, place):
        """The functions of the file as calls of that code and pattern."""
        yield lambda: determined(code, pattern)
        yield lambda: told_beats(code, pattern)
        yield lambda: mends(code, 3, pattern)
        yield lambda: reason_for(code, pattern, beat, place)
        yield lambda: silence_for(code, pattern, beat, place)
        for paper in (None, [], [(0, 0, 1)], [[0]], ODD_PAPERS[-1]):
            yield lambda: is_reason(code, pattern, beat, place, paper)
            yield lambda: is_silence(code, pattern, beat, place, paper)

    def test_exactly_200_letters_and_more(self):
        for letters, right, wrong in ((4, 50, 51), (5, 40, 41), (12, 16, 17), (10, 20, 21), (7, 28, 29)):
            code = wide_code(letters, letters, 1)
            for call in self.calls(code, [0] * right, right - 1, letters - 1):
                call()
            for pattern in ([0] * wrong, [1] * wrong, [0] * 60):
                for call in self.calls(code, pattern, 0, 0):
                    with self.assertRaises(TooLarge) as caught:
                        call()
                    check_same(self, caught.exception.bound, 200)

    def test_sixty_beats(self):
        for letters in (0, 1, 3):
            code = wide_code(letters, max(1, letters), 2)
            check_same(self, determined(code, [0] * 60), [[True] * letters for _ in range(60)])
            check_same(self, told_beats(code, [0] * 60), [[beat] * letters for beat in range(60)])
            self.assertIs(mends(code, 1, [0] * 60), True)
            for call in self.calls(code, [0] * 61, 0, 0):
                check_error(self, BadShape, "pattern", call)

    def test_errors_of_arguments_go_ahead_of_too_large(self):
        code = wide_code(5, 5, 1)
        large = [0] * 41
        for function in (reason_for, silence_for, lambda *given: is_reason(*given, None),
                         lambda *given: is_silence(*given, None)):
            check_error(self, BadNumber, "beat", function, code, large, 41, 9)
            check_error(self, BadNumber, "place", function, code, large, 40, 5)
            check_error(self, TooLarge, None, function, code, large, 40, 4)
        check_error(self, BadNumber, "delay", mends, code, 0, [0] * 61)
        check_error(self, BadNumber, "delay", mends, code, 7, large)
        check_error(self, BadShape, "pattern", mends, code, 6, [2] * 61)
        check_error(self, TooLarge, None, mends, code, 6, large)

    def test_empty_patterns(self):
        code = wide_code(2, 3, 1)
        check_same(self, [determined(code, []), told_beats(code, []), mends(code, 1, [])], [[], [], True])
        for beat in (0, -1, 1, None):
            for function in (reason_for, silence_for, lambda *given: is_reason(*given, []),
                             lambda *given: is_silence(*given, [])):
                check_error(self, BadNumber, "beat", function, code, [], beat, 0)

    def test_without_letters(self):
        code = wide_code(0, 2, 0)
        check_same(self, [determined(code, [0, 1]), told_beats(code, [1, 0]), mends(code, 1, [1, 1, 1])],
                   [[[], []], [[], []], True])
        for place in (0, -1, 1, None):
            for function in (reason_for, silence_for, lambda *given: is_reason(*given, []),
                             lambda *given: is_silence(*given, [[], []])):
                check_error(self, BadNumber, "place", function, code, [0, 1], 1, place)

    def test_checks(self):
        code = TimeCode(Field(3), 2, 3, [[[1, 0, 1], [0, 1, 1]], [[0, 0, 2], [0, 0, 1]]])
        pattern = [0, 1, 0, 1, 0]
        for function, exact in ((determined, False), (told_beats, False)):
            check_errors(self, function, {"code": code, "pattern": pattern},
                         {"pattern": bad_patterns(pattern, exact=exact)})
        check_errors(self, mends, {"code": code, "delay": 2, "pattern": pattern},
                     {"delay": bad_numbers(1, 6), "pattern": bad_patterns(pattern, exact=False)})
        good = {"code": code, "pattern": pattern, "beat": 1, "place": 1}
        bad = {"pattern": bad_patterns(pattern, exact=False), "beat": bad_numbers(0, 4), "place": bad_numbers(0, 1)}
        for function in (reason_for, silence_for):
            check_errors(self, function, good, bad)
        for function in (is_reason, is_silence):
            check_errors(self, function, {**good, "paper": None}, bad)

    def test_answers_are_new(self):
        code = TimeCode(Field(3), 2, 3, [[[1, 0, 1], [0, 1, 1]], [[0, 0, 2], [0, 0, 1]]])
        for pattern in ([], [0, 1, 0, 1], [1, 1, 1]):
            for function in (determined, told_beats):
                check_answer(self, function, {"code": code, "pattern": pattern})
            check_answer(self, mends, {"code": code, "delay": 2, "pattern": pattern})
        for pattern in ([0, 0, 1, 0], [1, 1, 1, 1]):
            for function in (reason_for, silence_for):
                check_answer(self, function, {"code": code, "pattern": pattern, "beat": 2, "place": 1})


if __name__ == "__main__":
    unittest.main()
