import itertools
import math
import unittest

from mendsontime.block import ring_checks
from mendsontime.burstmake import Making, base_code, can_make, copies_code, mend_layers
from mendsontime.errors import BadElement, BadNumber, BadShape, NotMade, TooLarge
from mendsontime.field import Field
from mendsontime.machine import all_patterns
from mendsontime.rules import BurstRule
from mendsontime.timecode import TimeCode, encode_rows, heard_rows

from helping import (
    NO_LISTS, SIZES, Numbers, alike, bad_entries, bad_numbers, check_answer, check_error, check_same, plain_heard,
    some_pattern,
)

SETTINGS = [(letters, signs, burst, delay) for letters in range(9) for signs in range(max(1, letters), 9)
            for burst in range(9) for delay in range(1, 7)]


def is_made(letters, signs, burst, delay):
    return letters == 0 or (burst <= delay and letters * (delay + burst) <= signs * delay)


def due_multiple(letters, signs, burst):
    return 1 if letters == 0 or burst == 0 else burst // math.gcd(burst, signs - letters)


def plain_base(field, burst, delay, rows, beat):
    """The signs of the base code at a beat, by the words of the document."""
    first, ring = delay - burst, ring_checks(delay - burst, burst)

    def letter(at, place):
        return rows[at][place] if at >= 0 else 0

    signs = list(rows[beat])
    for e in range(burst):
        total = letter(beat - delay, first + e)
        for j in range(first):
            total = field.plus(total, field.times(ring[j][e], letter(beat - (first + e - j), j)))
        signs.append(total)
    return signs


def plain_copies(field, letters, burst, delay, signs, rows, beat):
    """The signs of copies at a beat: the letters, the checks of each copy, and zeros."""
    found = list(rows[beat])
    if letters and burst:
        for first in range(0, letters, delay):
            own = [(row[first:first + delay] + [0] * delay)[:delay] for row in rows]
            found.extend(plain_base(field, burst, delay, own, beat)[delay:])
    return found + [0] * (signs - len(found))


class Settings(unittest.TestCase):
    def test_can_make(self):
        for setting in SETTINGS:
            self.assertIs(can_make(*setting), is_made(*setting))
        for setting, due in (((1, 2, 1, 1), True), ((1, 1, 1, 1), False), ((2, 3, 1, 2), True), ((2, 3, 2, 2), False),
                             ((0, 1, 8, 1), True), ((1, 8, 2, 1), False), ((8, 8, 0, 1), True), ((8, 8, 1, 6), False),
                             ((6, 7, 1, 6), True), ((7, 8, 1, 6), False), ((4, 8, 6, 6), True), ((5, 8, 6, 6), False)):
            self.assertIs(can_make(*setting), due, setting)

    def test_numbers(self):
        good = {"letters": 2, "signs": 4, "burst": 1, "delay": 2}
        for name, low, high in (("letters", 0, 8), ("signs", 2, 8), ("burst", 0, 8), ("delay", 1, 6)):
            for value, error in bad_numbers(low, high):
                wrong = {**good, name: value}
                check_error(self, error, name, can_make, **wrong)
                check_error(self, error, name, can_make, *wrong.values())
                check_error(self, error, name, Making, Field(2), **wrong)
        for letters in range(9):
            for value, error in bad_numbers(max(1, letters), 8):
                check_error(self, error, "signs", can_make, letters, value, None, None)
        check_error(self, BadNumber, "letters", can_make, 9, 0, 9, 0)
        check_error(self, BadNumber, "burst", can_make, 8, 8, 9, 0)


class BaseCodes(unittest.TestCase):
    def test_signs(self):
        for burst, delay in itertools.product(range(7), range(1, 7)):
            if burst > delay:
                continue
            for size in (2, 3, 16):
                field = Field(size)
                code = base_code(field, burst, delay)
                check_same(self, [code.letters, code.signs, code.plain], [delay, delay + burst, True])
                self.assertEqual(code.memory, delay if burst else 0)
                self.assertTrue(code.field == field)
                rows = Numbers(size + burst).matrix(size, 16, delay)
                check_same(self, encode_rows(code, rows),
                           [plain_base(field, burst, delay, rows, beat) for beat in range(16)])

    def test_told_taps(self):
        check_same(self, [base_code(Field(2), 1, 1).tap(d) for d in (0, 1)], [[[1, 0]], [[0, 1]]])
        code = base_code(Field(3), 2, 3)
        check_same(self, [code.tap(d) for d in range(4)], [
            [[1, 0, 0, 0, 0], [0, 1, 0, 0, 0], [0, 0, 1, 0, 0]],
            [[0, 0, 0, 1, 0], [0, 0, 0, 0, 0], [0, 0, 0, 0, 0]],
            [[0, 0, 0, 0, 1], [0, 0, 0, 0, 0], [0, 0, 0, 0, 0]],
            [[0, 0, 0, 0, 0], [0, 0, 0, 1, 0], [0, 0, 0, 0, 1]],
        ])
        self.assertTrue(base_code(Field(2), 0, 2) == TimeCode(Field(2), 2, 2, [[[1, 0], [0, 1]]]))

    def test_numbers(self):
        for value, error in bad_numbers(0, 6):
            check_error(self, error, "burst", base_code, Field(2), value, None)
        for value, error in bad_numbers(1, 6):
            check_error(self, error, "delay", base_code, Field(2), 2, value)
        for delay in range(1, 7):
            for burst in range(delay + 1, 7):
                check_error(self, NotMade, None, base_code, Field(2), burst, delay)
        self.assertTrue(base_code(field=Field(2), burst=6, delay=6) == base_code(Field(2), 6, 6))


class Copies(unittest.TestCase):
    def due_signs(self, letters, burst, delay):
        if letters == 0 or burst == 0:
            return max(1, letters)
        copies = next(g for g in range(99) if letters <= g * delay)
        return letters + copies * burst

    def test_signs(self):
        for letters, burst, delay in itertools.product(range(13), range(9), range(1, 7)):
            if letters and burst > delay:
                continue
            least = self.due_signs(letters, burst, delay)
            for signs in [None] + list(range(1, 13)):
                if least > 12 or (signs is not None and signs < least):
                    continue
                code = copies_code(Field(3), letters, burst, delay, signs=signs)
                width = least if signs is None else signs
                check_same(self, [code.letters, code.signs, code.plain], [letters, width, True])
                if signs in (None, 12, least):
                    rows = Numbers(letters).matrix(3, 9, letters)
                    check_same(self, encode_rows(code, rows),
                               [plain_copies(Field(3), letters, burst, delay, width, rows, at) for at in range(9)])

    def test_the_memory_may_be_less_than_the_delay(self):
        # One letter of three is a first part, and its checks come ahead of the late second parts.
        code = copies_code(Field(2), 1, 2, 3)
        check_same(self, [code.letters, code.signs, code.memory], [1, 3, 2])
        check_same(self, [code.tap(d) for d in range(3)], [[[1, 0, 0]], [[0, 1, 0]], [[0, 0, 1]]])
        # A check that has only left-over letters stays.
        code = copies_code(Field(2), 3, 2, 2)
        check_same(self, [code.signs, code.memory], [7, 2])
        check_same(self, code.tap(2), [[0, 0, 0, 1, 0, 0, 0], [0, 0, 0, 0, 1, 0, 0], [0, 0, 0, 0, 0, 1, 0]])

    def test_whole_copies_are_base_codes(self):
        for burst, delay in ((1, 2), (2, 3), (3, 3), (0, 4)):
            self.assertTrue(copies_code(Field(5), delay, burst, delay) == base_code(Field(5), burst, delay))

    def test_without_letters_or_losses(self):
        self.assertTrue(copies_code(Field(2), 0, 8, 1) == TimeCode(Field(2), 0, 1, [[]]))
        self.assertTrue(copies_code(Field(2), 0, 8, 1, signs=5) == TimeCode(Field(2), 0, 5, [[]]))
        self.assertTrue(copies_code(Field(2), 2, 0, 3, signs=3) == TimeCode(Field(2), 2, 3, [[[1, 0, 0], [0, 1, 0]]]))
        self.assertEqual(copies_code(Field(2), 12, 0, 1).signs, 12)

    def test_numbers(self):
        def called(field, letters, burst, delay, signs):
            return copies_code(field, letters, burst, delay, signs=signs)
        for value, error in bad_numbers(0, 12):
            check_error(self, error, "letters", called, Field(2), value, None, None, 0)
        for value, error in bad_numbers(0, 8):
            check_error(self, error, "burst", called, Field(2), 12, value, None, 0)
        for value, error in bad_numbers(1, 6):
            check_error(self, error, "delay", called, Field(2), 12, 8, value, 0)
        for value, error in bad_numbers(1, 12):
            if value is not None:
                check_error(self, error, "signs", called, Field(2), 12, 8, 1, value)

    def test_not_made_goes_ahead_of_too_large(self):
        for letters, burst, delay in itertools.product(range(13), range(9), range(1, 7)):
            least = self.due_signs(letters, burst, delay) if letters == 0 or burst <= delay else None
            for signs in [None] + list(range(1, 13)):
                if least is None or (signs is not None and signs < least):
                    check_error(self, NotMade, None, copies_code, Field(2), letters, burst, delay, signs=signs)
                elif least > 12:
                    with self.assertRaises(TooLarge) as caught:
                        copies_code(Field(2), letters, burst, delay, signs=signs)
                    check_same(self, caught.exception.bound, 12)
        with self.assertRaises(TooLarge):
            copies_code(Field(2), 12, 1, 6)
        check_error(self, NotMade, None, copies_code, Field(2), 12, 1, 6, signs=12)
        check_error(self, NotMade, None, copies_code, Field(2), 12, 8, 6)


class Makings(unittest.TestCase):
    def test_every_setting(self):
        for setting in SETTINGS:
            letters, signs, burst, delay = setting
            multiple = due_multiple(letters, signs, burst)
            if not is_made(*setting):
                check_error(self, NotMade, None, Making, Field(2), *setting)
            elif signs * multiple > 12:
                with self.assertRaises(TooLarge) as caught:
                    Making(Field(2), *setting)
                check_same(self, caught.exception.bound, 12)
            else:
                making = Making(Field(2), *setting)
                check_same(self, [making.letters, making.signs, making.burst, making.delay], list(setting))
                check_same(self, making.multiple, multiple)
                self.assertTrue(making.field == Field(2))
                self.assertTrue(making.code == copies_code(Field(2), letters * multiple, burst, delay,
                                                           signs=signs * multiple))

    def test_not_made_goes_ahead_of_too_large(self):
        # The multiple would be 5, so the code would have 40 signs.
        check_error(self, NotMade, None, Making, Field(2), 7, 8, 5, 6)
        check_error(self, TooLarge, None, Making, Field(2), 3, 7, 5, 6)

    def test_the_example(self):
        making = Making(Field(2), 1, 2, 2, 2)
        check_same(self, [making.multiple, making.code.letters, making.code.signs, making.code.memory], [2, 2, 4, 2])
        making = Making(field=Field(3), letters=0, signs=4, burst=8, delay=1)
        check_same(self, [making.multiple, making.code.letters, making.code.signs], [1, 0, 4])
        check_same(self, [Making(Field(2), 2, 4, 4, 4).multiple, Making(Field(2), 3, 4, 0, 4).multiple], [2, 1])

    def test_a_making_stays_as_it_is(self):
        making = Making(Field(2), 1, 2, 2, 2)
        for name in ("field", "letters", "signs", "burst", "delay", "multiple", "code"):
            with self.assertRaises(AttributeError):
                setattr(making, name, 1)


def mended_over(making):
    return lambda heard: mend_layers(making, heard)


class Layers(unittest.TestCase):
    def check_stream(self, making, pattern, numbers):
        code = making.code
        rows = numbers.matrix(code.field.size, len(pattern), code.letters)
        found = mend_layers(making, heard_rows(code, encode_rows(code, rows), pattern))
        check_same(self, found, rows[:max(0, len(pattern) - making.delay)])

    def test_every_kept_pattern_of_small_settings(self):
        for setting in ((1, 2, 1, 1), (1, 2, 2, 2), (2, 3, 1, 2), (3, 5, 2, 3), (2, 4, 3, 3), (1, 3, 2, 2),
                        (3, 6, 1, 1), (2, 5, 2, 3), (4, 5, 1, 4), (4, 6, 2, 4), (3, 4, 0, 2), (2, 8, 3, 4)):
            making, numbers = Making(Field(3), *setting), Numbers(sum(setting))
            for beats in (0, 1, 2, 4, 7, 9, 10):
                for pattern in all_patterns(BurstRule(making.burst, making.delay), beats):
                    self.check_stream(making, pattern, numbers)

    def test_every_stream_of_a_small_code(self):
        making = Making(Field(2), 1, 2, 1, 1)
        for pattern in all_patterns(BurstRule(1, 1), 6):
            for flat in itertools.product(range(2), repeat=6):
                rows = [[letter] for letter in flat]
                self.assertEqual(mend_layers(making, plain_heard(making.code, rows, pattern)), rows[:5])

    def test_long_patterns_of_every_setting(self):
        for setting in SETTINGS:
            letters, signs, burst, delay = setting
            if not is_made(*setting) or signs * due_multiple(letters, signs, burst) > 12:
                continue
            size = SIZES[(letters + 3 * signs + 5 * burst + delay) % len(SIZES)]
            making, numbers = Making(Field(size), *setting), Numbers(letters * 8 + signs)
            rule = BurstRule(burst, delay)
            for beats in (60, 20 + delay):
                self.check_stream(making, some_pattern(numbers, rule, beats), numbers)

    def test_stretches_at_every_beat(self):
        for setting in ((3, 5, 2, 3), (6, 8, 2, 6), (5, 8, 3, 5), (4, 8, 4, 4), (2, 5, 2, 2)):
            making, numbers = Making(Field(4), *setting), Numbers(3)
            for first, length in itertools.product(range(12), range(making.burst + 1)):
                pattern = [int(first <= beat < first + length) for beat in range(18)]
                for beats in (18, first + making.delay + 1, first + length + making.delay, first + length):
                    self.check_stream(making, pattern[:beats], numbers)

    def test_heard_rows_of_no_stream(self):
        for setting in ((1, 2, 2, 2), (3, 5, 2, 3), (6, 8, 2, 6), (3, 4, 0, 2), (0, 3, 2, 1)):
            making, numbers = Making(Field(5), *setting), Numbers(2)
            for beats in (0, 3, 11, 25):
                pattern = some_pattern(numbers, BurstRule(making.burst, making.delay), beats)
                heard = [None if flag else numbers.row(5, making.code.signs) for flag in pattern]
                found = check_answer(self, mended_over(making), {"heard": heard})
                self.assertEqual(len(found), max(0, beats - making.delay))
                for row in found:
                    self.assertEqual(len(row), making.code.letters)
                    self.assertTrue(all(type(entry) is int and 0 <= entry < 5 for entry in row))

    def test_without_letters(self):
        making = Making(Field(2), 0, 2, 2, 3)
        check_same(self, mend_layers(making, [None, None, [0, 0], [1, 0], [0, 1]]), [[], []])
        check_same(self, mend_layers(making, [None, [0, 0], [0, 0]]), [])
        check_error(self, BadShape, "heard", mend_layers, making, [None, None, None])
        check_error(self, BadShape, "heard", mend_layers, making, [None, [0, 0], None])

    def test_the_pattern_keeps_the_rule(self):
        making = Making(Field(2), 1, 2, 1, 2)
        signs = [0] * making.code.signs
        for pattern in ([1, 1], [1, 0, 1], [0, 0, 1, 0, 1], [1, 0, 0, 1, 1]):
            heard = [None if flag else list(signs) for flag in pattern]
            check_error(self, BadShape, "heard", mend_layers, making, heard)
            # A wrong entry goes ahead of a pattern that breaks the rule, and a wrong shape ahead of both.
            check_error(self, BadElement, "heard", mend_layers, making, heard + [[2] * len(signs)])
            check_error(self, BadShape, "heard", mend_layers, making, heard + [[2] * len(signs), [0]])
        self.assertEqual(len(mend_layers(making, [None, signs, signs, None])), 2)
        making = Making(Field(2), 3, 4, 0, 6)
        check_error(self, BadShape, "heard", mend_layers, making, [None])

    def test_checks(self):
        making = Making(Field(3), 1, 2, 1, 1)
        heard = [[1, 0], None, [2, 1]]
        check_answer(self, mended_over(making), {"heard": heard})
        wrong = [(value, BadShape) for value in NO_LISTS]
        wrong += [(tuple(heard), BadShape), ([[0, 0]] * 61, BadShape), ([[0, 0], [0]], BadShape),
                  ([[3, 0], [0, 0, 0]], BadShape), ([[0, 0], (0, 0)], BadShape), ([[0, 0], 0], BadShape)]
        wrong += [([[0, 0], None, [0, value]], BadElement) for value in bad_entries(3)]
        for value, error in wrong:
            check_error(self, error, "heard", mend_layers, making, value)
            check_error(self, error, "heard", mend_layers, making=making, heard=value)
        self.assertTrue(alike(len(mend_layers(making, [[0, 0]] * 60)), 59))


if __name__ == "__main__":
    unittest.main()
