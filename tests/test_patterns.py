import itertools
import unittest

from mendsontime.errors import BadElement, BadNumber, BadShape, BadText
from mendsontime.patterns import (
    gaps, heard_beats, lost_beats, pattern_text, read_pattern, round_pattern, stretches,
)

from helping import (
    NO_NUMBERS, Numbers, all_lists, bad_numbers, bad_patterns, check_answer, check_call, check_error,
)

OF_PATTERN = (stretches, gaps, heard_beats, lost_beats, pattern_text)


def plain_stretches(pattern):
    """Runs of lost beats, by grouping."""
    found, beat = [], 0
    for flag, group in itertools.groupby(pattern):
        length = len(list(group))
        if flag:
            found.append((beat, length))
        beat += length
    return found


def short_and_long_patterns():
    for length in range(9):
        yield from all_lists(2, length)
    for seed in range(5):
        yield Numbers(seed).row(2, 800)
    yield from ([0] * 800, [1] * 800, [0, 1] * 400, [1, 0] * 400)


class Beats(unittest.TestCase):
    def test_stretches_and_gaps(self):
        for pattern in short_and_long_patterns():
            found = check_answer(self, stretches, {"pattern": pattern})
            self.assertEqual(found, plain_stretches(pattern))
            between = check_answer(self, gaps, {"pattern": pattern})
            self.assertEqual(between, [later - first - length for (first, length), (later, _)
                                       in zip(found, found[1:])])
            self.assertEqual(len(between), max(0, len(found) - 1))

    def test_told_values(self):
        self.assertEqual(stretches([0, 1, 1, 0, 0, 1, 0, 1]), [(1, 2), (5, 1), (7, 1)])
        self.assertEqual(gaps([0, 1, 1, 0, 0, 1, 0, 1]), [2, 1])
        self.assertEqual(stretches([1, 1, 1]), [(0, 3)])
        self.assertEqual(gaps([0, 0, 1, 0, 0, 0]), [])
        self.assertEqual(stretches([]), [])
        self.assertEqual(gaps([]), [])
        self.assertEqual(gaps([0, 0]), [])
        self.assertEqual(heard_beats([0, 1, 1, 0]), [0, 3])
        self.assertEqual(lost_beats([0, 1, 1, 0]), [1, 2])

    def test_heard_and_lost_beats(self):
        for pattern in short_and_long_patterns():
            good = {"pattern": pattern}
            self.assertEqual(check_answer(self, heard_beats, good), [b for b, flag in enumerate(pattern) if not flag])
            self.assertEqual(check_answer(self, lost_beats, good), [b for b, flag in enumerate(pattern) if flag])

    def test_checks(self):
        pattern = [0, 1, 1, 0, 1]
        bad = bad_patterns(pattern, exact=False) + [([0] * 801, BadShape), ([2] * 801, BadShape),
                                                    ([0] * 799 + [2], BadElement), ([True], BadElement)]
        for function in OF_PATTERN:
            check_call(self, function, {"pattern": pattern}, {"pattern": bad})
            function([0] * 800)


class RoundPatterns(unittest.TestCase):
    def test_all(self):
        for lost, heard in itertools.product(range(9), repeat=2):
            if lost == heard == 0:
                continue
            for beats in (0, 1, 5, 17, 40):
                good = {"lost": lost, "heard": heard, "beats": beats}
                due = (([1] * lost + [0] * heard) * beats)[:beats]
                self.assertEqual(check_answer(self, round_pattern, good), due)
        self.assertEqual(round_pattern(2, 1, 7), [1, 1, 0, 1, 1, 0, 1])
        self.assertEqual(round_pattern(0, 1, 3), [0, 0, 0])
        self.assertEqual(round_pattern(1, 0, 3), [1, 1, 1])
        self.assertEqual(len(round_pattern(8, 8, 800)), 800)

    def test_checks(self):
        check_call(self, round_pattern, {"lost": 2, "heard": 3, "beats": 9},
                   {"lost": bad_numbers(0, 8), "heard": bad_numbers(0, 8), "beats": bad_numbers(0, 800)})
        check_call(self, round_pattern, {"lost": 0, "heard": 3, "beats": 9},
                   {"lost": bad_numbers(0, 8), "heard": bad_numbers(1, 8), "beats": bad_numbers(0, 800)})
        for beats in (0, 5, 801, None):
            check_error(self, BadNumber, "heard", round_pattern, 0, 0, beats)
        check_error(self, BadNumber, "lost", round_pattern, False, 0, 5)


class Texts(unittest.TestCase):
    def test_there_and_back(self):
        for pattern in short_and_long_patterns():
            text = check_answer(self, pattern_text, {"pattern": pattern})
            self.assertEqual(text, "".join(".x"[flag] for flag in pattern))
            self.assertEqual(check_answer(self, read_pattern, {"text": text}), pattern)
        self.assertEqual(pattern_text([]), "")
        self.assertEqual(read_pattern(""), [])
        self.assertEqual(read_pattern("x..x"), [1, 0, 0, 1])

    def test_bad_texts(self):
        wrong = [value for value in NO_NUMBERS if value != ""]
        wrong += [".X", "x .", " ", ".\n", "\n", "x\n.", ".x,", "0", "01", "x\u00d7", "\u2024", "\x00", "\ud800",
                  "." * 801, "." * 800 + "y", b".x", ["x"], (".",), list(".x"), "?" * 900, "xx" * 401, ".x\t", "x\r"]
        for text in wrong:
            with self.subTest(text=repr(text)[:40]):
                with self.assertRaises(BadText) as caught:
                    read_pattern(text)
                self.assertIs(type(caught.exception.line), int)
                self.assertEqual(caught.exception.line, 1)
        self.assertEqual(read_pattern("x" * 800), [1] * 800)


if __name__ == "__main__":
    unittest.main()
