import itertools
import unittest

from mendsontime.errors import BadElement, BadNumber, BadShape
from mendsontime.field import Field
from mendsontime.timecode import Encoder, TimeCode, encode_rows, heard_rows, pattern_of

from helping import (
    NO_LISTS, NO_NUMBERS, SIZES, Numbers, alike, bad_entries, bad_matrices, bad_numbers, bad_patterns, bad_rows,
    check_answer, check_call, check_error, check_errors, check_same, plain_heard, plain_signs, plain_sum,
)


def some_code(size, letters, signs, memory, seed=0):
    """A code whose last tap is not all zero."""
    numbers = Numbers(seed + 97 * size + letters + signs + memory)
    taps = [numbers.matrix(size, letters, signs) for _ in range(memory + 1)]
    if letters:
        taps[-1][0][0] = 1
    return TimeCode(Field(size), letters, signs, taps)


def some_codes():
    for size, letters, signs, memory in ((2, 1, 1, 0), (2, 2, 3, 1), (3, 2, 2, 3), (4, 3, 1, 2), (16, 12, 12, 12),
                                         (5, 1, 12, 12), (9, 12, 1, 4), (7, 0, 3, 0), (2, 0, 1, 0)):
        yield some_code(size, letters, signs, memory)


class Codes(unittest.TestCase):
    def test_properties(self):
        for code in some_codes():
            again = TimeCode(code.field, code.letters, code.signs, [code.tap(d) for d in range(code.memory + 1)])
            self.assertTrue(again == code)
        code = some_code(4, 3, 2, 5)
        self.assertEqual(code.field, Field(4))
        check_same(self, [code.letters, code.signs, code.memory], [3, 2, 5])
        for name in ("field", "letters", "signs", "memory", "plain"):
            with self.assertRaises(AttributeError):
                setattr(code, name, 1)

    def test_taps_that_are_zero_at_the_end_are_dropped(self):
        zero, one, two = [[0, 0]], [[1, 0]], [[0, 2]]
        for taps, memory in (([zero], 0), ([zero, zero], 0), ([one, zero, zero], 0), ([zero, one], 1),
                             ([one, zero, two], 2), ([one, zero, two, zero, zero], 2), ([zero] * 13, 0),
                             ([zero] * 12 + [two], 12), ([one] * 13, 12)):
            code = TimeCode(Field(3), 1, 2, taps)
            check_same(self, code.memory, memory)
            for delay in range(61):
                check_same(self, code.tap(delay), taps[delay] if delay < len(taps) else zero)
            self.assertTrue(code == TimeCode(Field(3), 1, 2, taps[:memory + 1]))

    def test_without_letters(self):
        for taps in ([[]], [[], []], [[]] * 13):
            code = TimeCode(Field(3), 0, 2, taps)
            check_same(self, [code.letters, code.signs, code.memory, code.plain], [0, 2, 0, True])
            check_same(self, [code.tap(0), code.tap(5)], [[], []])
            check_same(self, code.row_at([[], []], 1), [0, 0])
            check_same(self, code.fact_rows(0), [[], []])
            check_same(self, code.fact_rows(12), [[], []])
            check_same(self, encode_rows(code, [[], []], tail=1), [[0, 0]] * 3)
            self.assertTrue(code == TimeCode(Field(3), 0, 2, [[]]))

    def test_plain(self):
        field = Field(3)
        for letters, signs, taps, due in (
                (1, 1, [[[1]]], True), (1, 1, [[[2]]], False), (1, 1, [[[0]]], False), (1, 1, [[[1]], [[1]]], False),
                (1, 2, [[[1, 2]], [[0, 1]]], True), (1, 2, [[[2, 1]]], False), (2, 1, [[[1], [0]]], False),
                (2, 2, [[[1, 0], [0, 1]]], True), (2, 2, [[[0, 1], [1, 0]]], False),
                (2, 2, [[[1, 0], [1, 1]]], False), (2, 2, [[[1, 0], [0, 1]], [[0, 0], [0, 0]]], True),
                (2, 3, [[[1, 0, 1], [0, 1, 2]], [[0, 0, 2], [0, 0, 0]]], True),
                (2, 3, [[[1, 0, 1], [0, 1, 2]], [[0, 0, 2], [0, 1, 0]]], False),
                (2, 3, [[[1, 0, 1], [0, 1, 2]], [[0, 0, 0]] * 2, [[1, 0, 0], [0, 0, 0]]], False),
                (0, 1, [[]], True), (2, 1, [[[0], [0]]], False)):
            self.assertIs(TimeCode(field, letters, signs, taps).plain, due, taps)

    def test_equal_codes(self):
        codes = [TimeCode(Field(2), 1, 1, [[[1]]]), TimeCode(Field(3), 1, 1, [[[1]]]),
                 TimeCode(Field(2), 1, 1, [[[0]]]), TimeCode(Field(2), 1, 2, [[[1, 0]]]),
                 TimeCode(Field(2), 1, 1, [[[1]], [[1]]]), TimeCode(Field(2), 2, 1, [[[1], [0]]]),
                 TimeCode(Field(2), 0, 1, [[]]), TimeCode(Field(2), 0, 2, [[]]), TimeCode(Field(4), 0, 1, [[]])]
        for i, code in enumerate(codes):
            taps = [code.tap(delay) for delay in range(code.memory + 1)]
            again = TimeCode(Field(code.field.size), code.letters, code.signs, taps)
            for j, other in enumerate(codes):
                self.assertIs(again == other, i == j)
                self.assertIs(again != other, i != j)
            for value in list(NO_NUMBERS) + [1, taps]:
                self.assertIs(code == value, False)

    def test_tap(self):
        code = some_code(3, 2, 2, 3)
        check_call(self, code.tap, {"delay": 3}, {"delay": bad_numbers(0, 60)})
        check_answer(self, code.tap, {"delay": 4})
        check_same(self, code.tap(60), [[0, 0], [0, 0]])

    def test_row_at(self):
        for code in some_codes():
            size, numbers = code.field.size, Numbers(5)
            for high in (0, 1, 4, 20):
                rows = numbers.matrix(size, high, code.letters)
                for beat in (0, 1, 2, 5, 12, 19, 20, 25, 31, 32, 33, 600):
                    good = {"rows": rows, "beat": beat}
                    check_same(self, check_answer(self, code.row_at, good), plain_signs(code, rows, beat))
        code = TimeCode(Field(5), 2, 2, [[[1, 2], [0, 1]], [[3, 0], [4, 4]]])
        check_same(self, code.row_at([[1, 2], [3, 4]], 0), [1, 4])
        check_same(self, code.row_at([[1, 2], [3, 4]], 1), [4, 3])
        check_same(self, code.row_at([[1, 2], [3, 4]], 2), [0, 1])
        check_same(self, code.row_at([[1, 2], [3, 4]], 3), [0, 0])

    def test_row_at_checks(self):
        code, rows = some_code(3, 2, 2, 1), [[1, 2], [0, 1]]
        check_errors(self, code.row_at, {"rows": rows, "beat": 1},
                     {"rows": bad_matrices(3, rows, most=500), "beat": bad_numbers(0, 600)})
        check_same(self, code.row_at([[1, 1]] * 500, 499), plain_signs(code, [[1, 1]] * 500, 499))

    def test_fact_rows(self):
        for code in some_codes():
            letters, numbers = code.letters, Numbers(9)
            for span in (0, 1, 2, 5, 12):
                found = check_answer(self, code.fact_rows, {"span": span})
                self.assertEqual(len(found), code.signs)
                for sign, row in enumerate(found):
                    due = [code.tap(span - at)[j][sign] for at in range(span + 1) for j in range(letters)]
                    check_same(self, row, due)
                if span >= code.memory:
                    # The rows describe the signs of a beat by the letters of the last beats.
                    rows = numbers.matrix(code.field.size, span + 1, letters)
                    flat = [entry for row in rows for entry in row]
                    self.assertEqual([plain_sum(code.field, row, flat) for row in found], code.row_at(rows, span))
        check_same(self, TimeCode(Field(3), 1, 2, [[[1, 2]], [[0, 1]]]).fact_rows(2), [[0, 0, 1], [0, 1, 2]])
        check_same(self, TimeCode(Field(3), 1, 2, [[[1, 2]], [[0, 1]]]).fact_rows(0), [[1], [2]])
        check_same(self, TimeCode(Field(5), 2, 1, [[[1], [2]], [[3], [4]]]).fact_rows(1), [[3, 4, 1, 2]])
        for value, error in bad_numbers(0, 12):
            check_error(self, error, "span", some_code(3, 2, 2, 1).fact_rows, value)


class WrongCodes(unittest.TestCase):
    def test_numbers(self):
        taps = [[[1, 0]]]
        good = {"field": Field(2), "letters": 1, "signs": 2, "taps": taps}
        check_errors(self, TimeCode, good, {"letters": bad_numbers(0, 12), "signs": bad_numbers(1, 12),
                                            "taps": [(value, BadShape) for value in NO_LISTS]})
        self.assertTrue(TimeCode(**good) == TimeCode(*good.values()))
        check_error(self, BadNumber, "signs", TimeCode, Field(2), 0, 0, None)

    def test_shapes(self):
        good = [[[1, 0], [0, 2]], [[0, 1], [1, 1]]]
        wrong = [[], good * 7, tuple(good), [tuple(good[0])], [good[0], None], [good[0], good[1][:1]],
                 [good[0], good[1] + [[0, 0]]], [good[0], [[0, 1], (1, 1)]], [good[0], [[0, 1], [1]]],
                 [good[0], [[0, 1], [1, 1, 1]]], [good[0], []], [[]], [[[]]], [0], [[0]], [[1, 0], [0, 2]], [[[1, 0]]],
                 [good[0]] * 14]
        for taps in wrong:
            check_error(self, BadShape, "taps", TimeCode, Field(3), 2, 2, taps)
        # The shape of every tap goes ahead of the entries of the first.
        for late in (None, [], [[0, 1]], [[0, 1], [1]], [[0, 1], (1, 1)], [[0, 1], [1, 1], [0, 0]]):
            check_error(self, BadShape, "taps", TimeCode, Field(3), 2, 2, [[[3, None], [0, 2]], late])
        check_error(self, BadShape, "taps", TimeCode, Field(3), 2, 2, [[[3, 0], [0, 2]]] * 14)
        for taps in ([], [[[]]], [[], [[0]]], [None], [()], [[]] * 14):
            check_error(self, BadShape, "taps", TimeCode, Field(3), 0, 1, taps)

    def test_entries(self):
        for value in bad_entries(3):
            for tap, row, at in itertools.product(range(2), repeat=3):
                taps = [[[1, 0], [0, 2]], [[0, 1], [1, 1]]]
                taps[tap][row][at] = value
                check_error(self, BadElement, "taps", TimeCode, Field(3), 2, 2, taps)

    def test_thirteen_taps(self):
        self.assertEqual(TimeCode(Field(2), 1, 1, [[[1]]] * 13).memory, 12)
        self.assertEqual(some_code(2, 12, 12, 12).signs, 12)

    def test_taps_are_copied(self):
        taps = [[[1, 0], [0, 2]], [[0, 1], [1, 1]]]
        code = TimeCode(Field(3), 2, 2, taps)
        taps[0][0][0] = 2
        taps[1].append([0, 0])
        taps.append([])
        check_same(self, [code.tap(0), code.tap(1), code.memory], [[[1, 0], [0, 2]], [[0, 1], [1, 1]], 1])
        code.tap(1)[0][1] = 0
        code.fact_rows(1)[0][0] = 2
        check_same(self, code.tap(1), [[0, 1], [1, 1]])
        same = [[1, 0], [0, 1]]
        check_same(self, TimeCode(Field(3), 2, 2, [same, same]).tap(1), same)


class Streams(unittest.TestCase):
    def test_encode_rows(self):
        for code in some_codes():
            numbers = Numbers(2)
            for high, tail in ((0, 0), (0, 3), (1, 0), (5, 12), (14, 1)):
                rows = numbers.matrix(code.field.size, high, code.letters)
                due = [plain_signs(code, rows, beat) for beat in range(high + tail)]
                good = {"code": code, "rows": rows}
                check_same(self, check_answer(self, encode_rows, good, {"tail": tail}), due)
                check_same(self, encode_rows(code, rows), due[:high])

    def test_encode_rows_checks(self):
        code, rows = some_code(3, 2, 2, 1), [[1, 2], [0, 1]]
        check_errors(self, lambda code, rows, tail: encode_rows(code, rows, tail=tail),
                     {"code": code, "rows": rows, "tail": 1},
                     {"rows": bad_matrices(3, rows, most=500), "tail": bad_numbers(0, 12)})
        self.assertEqual(len(encode_rows(code, [[0, 1]] * 500, tail=12)), 512)

    def test_heard_rows(self):
        code = some_code(3, 2, 2, 1)
        sent = [[1, 2], [0, 1], [2, 2]]
        good = {"code": code, "sent": sent, "pattern": [0, 1, 0]}
        bad = {"sent": bad_matrices(3, sent, most=600), "pattern": bad_patterns([0, 1, 0], exact=True)}
        check_same(self, check_call(self, heard_rows, good, bad), [[1, 2], None, [2, 2]])
        check_same(self, heard_rows(code, [], []), [])
        check_same(self, heard_rows(code, [[0, 1]] * 600, [1] * 600), [None] * 600)
        same = [1, 2]
        check_answer(self, lambda sent, pattern: heard_rows(code, sent, pattern),
                     {"sent": [same, same], "pattern": [0, 0]})

    def test_pattern_of(self):
        for heard, due in (([], []), ([None], [1]), ([[1], None, [], 0, "None", (), False, None],
                                                     [0, 1, 0, 0, 0, 0, 0, 1]), ([None] * 600, [1] * 600)):
            check_same(self, check_answer(self, pattern_of, {"heard": heard}), due)
        for value in list(NO_LISTS) + [(None,), [None] * 601, [0] * 601]:
            check_error(self, BadShape, "heard", pattern_of, value)

    def test_there_and_back(self):
        code, numbers = some_code(4, 2, 3, 2), Numbers(8)
        rows = numbers.matrix(4, 9, 2)
        pattern = numbers.row(2, 9)
        heard = heard_rows(code, encode_rows(code, rows), pattern)
        check_same(self, heard, plain_heard(code, rows, pattern))
        self.assertEqual(pattern_of(heard), pattern)


class Encoders(unittest.TestCase):
    def test_push_and_rest(self):
        for code in some_codes():
            numbers = Numbers(6)
            rows = numbers.matrix(code.field.size, 6, code.letters)
            encoder = Encoder(code)
            self.assertEqual(encoder.beat, 0)
            found = []
            for at, row in enumerate(rows):
                found.append(encoder(row) if at % 2 else encoder.push(row))
                check_same(self, encoder.beat, at + 1)
            found.extend(encoder.rest(3))
            check_same(self, encoder.beat, 9)
            check_same(self, encoder.rest(0), [])
            found.append(encoder.push(rows[0]))
            found.extend(encoder.rest(tail=12))
            due = rows + [[0] * code.letters] * 3 + [rows[0]] + [[0] * code.letters] * 12
            check_same(self, found, [plain_signs(code, due, beat) for beat in range(22)])
            check_same(self, encoder.beat, 22)

    def test_many_beats(self):
        code, numbers = some_code(3, 1, 2, 4), Numbers(12)
        rows = numbers.matrix(3, 700, 1)
        encoder = Encoder(code=code)
        found = [encoder.push(letters=row) for row in rows]
        self.assertEqual(found, [plain_signs(code, rows, beat) for beat in range(700)])
        self.assertEqual(encoder.beat, 700)

    def test_a_call_that_raises_does_not_count(self):
        code = some_code(3, 2, 2, 2)
        for name in ("push", "__call__"):
            encoder, other = Encoder(code), Encoder(code)
            encoder.push([1, 2])
            other.push([1, 2])
            for value, error in bad_rows(3, [1, 2]):
                check_error(self, error, "letters", getattr(encoder, name), value)
            for value, error in bad_numbers(0, 12):
                check_error(self, error, "tail", encoder.rest, value)
            self.assertEqual(encoder.beat, 1)
            self.assertEqual(encoder(letters=[2, 2]), other([2, 2]))

    def test_rows_are_copied(self):
        code = some_code(3, 2, 2, 2)
        encoder, row = Encoder(code), [1, 2]
        first = encoder.push(row)
        kept = list(first)
        row[0] = 0
        first[0] = 9
        rest = encoder.rest(2)
        check_same(self, [kept] + [list(signs) for signs in rest], [plain_signs(code, [[1, 2]], b) for b in range(3)])
        self.assertEqual(len(set(map(id, rest))), 2)
        with self.assertRaises(AttributeError):
            encoder.beat = 0

    def test_two_encoders_do_not_share(self):
        code = some_code(3, 2, 2, 2)
        one, other = Encoder(code), Encoder(code)
        one.push([2, 2])
        self.assertEqual(other.push([1, 1]), plain_signs(code, [[1, 1]], 0))
        self.assertEqual([one.beat, other.beat], [1, 1])
        self.assertTrue(alike(one.push([1, 1]), plain_signs(code, [[2, 2], [1, 1]], 1)))


class EveryField(unittest.TestCase):
    def test_one_code_over_each(self):
        for size in SIZES:
            code, numbers = some_code(size, 3, 4, 3), Numbers(size)
            rows = numbers.matrix(size, 10, 3)
            self.assertEqual(encode_rows(code, rows), [plain_signs(code, rows, beat) for beat in range(10)])


if __name__ == "__main__":
    unittest.main()
