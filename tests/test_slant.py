import itertools
import unittest

from mendsontime.block import encode_block, ring_checks, solving_rows
from mendsontime.cauchy import cauchy_checks
from mendsontime.errors import BadElement, BadNumber, BadShape
from mendsontime.field import Field
from mendsontime.slant import mend_slants, slant_code, slant_word
from mendsontime.timecode import encode_rows, heard_rows

from helping import (
    NO_LISTS, SIZES, Numbers, all_lists, bad_entries, bad_matrices, bad_numbers, check_answer, check_error,
    check_errors, check_same, plain_sum,
)

SHAPES = ((1, 1), (2, 1), (1, 2), (3, 2), (2, 3), (4, 4), (3, 0), (0, 2), (1, 11), (11, 1), (12, 0), (0, 12), (0, 1))


def some_matrix(size, letters, checks):
    return Numbers(size * 100 + letters * 10 + checks).matrix(size, letters, checks)


def block_rows(letters, matrix):
    return [[int(i == j) for j in range(letters)] + row for i, row in enumerate(matrix)]


def plain_slants(field, letters, checks, matrix, rows, beats):
    """The sign rows, word by word: words start at every beat, also ahead of beat 0."""
    sent = [[None] * (letters + checks) for _ in range(beats)]
    for start in range(-letters - checks, beats):
        word = [rows[start + j][j] if 0 <= start + j < len(rows) else 0 for j in range(letters)]
        signs = encode_block(field, letters + checks, block_rows(letters, matrix), word)
        for place, sign in enumerate(signs):
            if 0 <= start + place < beats:
                sent[start + place][place] = sign
    return sent


class Codes(unittest.TestCase):
    def test_words_along_slants(self):
        for size in (2, 5, 16):
            for letters, checks in SHAPES:
                field, matrix = Field(size), some_matrix(size, letters, checks)
                code = slant_code(field, letters, checks, matrix)
                rows = Numbers(size + 3).matrix(size, 15, letters)
                self.assertEqual([code.field, code.letters, code.signs], [field, letters, letters + checks])
                self.assertIs(code.plain, True)
                check_same(self, encode_rows(code, rows, tail=4),
                           plain_slants(field, letters, checks, matrix, rows, 19))

    def test_taps(self):
        code = slant_code(Field(5), 2, 2, [[1, 2], [3, 4]])
        check_same(self, [code.tap(delay) for delay in range(code.memory + 1)], [
            [[1, 0, 0, 0], [0, 1, 0, 0]],
            [[0, 0, 0, 0], [0, 0, 3, 0]],
            [[0, 0, 1, 0], [0, 0, 0, 4]],
            [[0, 0, 0, 2], [0, 0, 0, 0]],
        ])
        for letters, checks in SHAPES:
            matrix = [[1] * checks for _ in range(letters)]
            code = slant_code(Field(3), letters, checks, matrix)
            self.assertEqual(code.memory, letters + checks - 1 if letters and checks else 0)
            for j, e in itertools.product(range(letters), range(checks)):
                self.assertEqual(code.tap(letters + e - j)[j][letters + e], 1)

    def test_checks(self):
        matrix = [[1, 2], [0, 1], [1, 1]]
        good = {"field": Field(3), "letters": 3, "checks": 2, "matrix": matrix}
        bad = {"letters": bad_numbers(0, 12), "checks": bad_numbers(0, 9), "matrix": bad_matrices(3, matrix)}
        check_errors(self, slant_code, good, bad)
        check_answer(self, lambda field, letters, checks, matrix: slant_code(field, letters, checks, matrix).tap(3),
                     good)
        for value, error in bad_numbers(1, 12):
            check_error(self, error, "checks", slant_code, Field(2), 0, value, [])
            check_error(self, error, "checks", mend_slants, Field(2), 0, value, [], [])
        for letters in range(1, 13):
            check_error(self, BadNumber, "checks", slant_code, Field(2), letters, 13 - letters, None)
            slant_code(Field(2), letters, 12 - letters, [[1] * (12 - letters)] * letters)

    def test_the_matrix_is_copied(self):
        matrix = [[1], [1]]
        code = slant_code(Field(2), 2, 1, matrix)
        matrix[0][0] = 0
        self.assertEqual(code.tap(2)[0], [0, 0, 1])


class Words(unittest.TestCase):
    def test_the_three_cases(self):
        heard = [[1, 2, 3], None, [4, 5, 6], [7, 8, 9]]
        for start, due in ((-40, [0, 0, 0]), (-3, [0, 0, 0]), (-2, [0, 0, 3]), (-1, [0, 2, None]), (0, [1, None, 6]),
                           (1, [None, 5, 9]), (2, [4, 8, None]), (3, [7, None, None]), (4, [None] * 3),
                           (60, [None] * 3)):
            check_same(self, check_answer(self, slant_word, {"width": 3, "heard": heard, "start": start}), due)
        check_same(self, slant_word(2, [], -1), [0, None])
        check_same(self, slant_word(1, [], 0), [None])
        check_same(self, slant_word(12, [[15] * 12] * 60, 50), [15] * 10 + [None] * 2)
        check_same(self, slant_word(12, [None] * 60, -5), [0] * 5 + [None] * 7)

    def test_checks(self):
        heard = [[1, 15], None, [0, 3]]
        wrong = [(value, BadShape) for value in NO_LISTS]
        wrong += [([[0, 0]] * 61, BadShape), ([None] * 61, BadShape), (tuple(heard), BadShape), ([[1]], BadShape),
                  ([[1, 2, 3]], BadShape), ([(1, 2)], BadShape), ([[16, 0], None, [0]], BadShape),
                  ([[None, 0], [0]], BadShape), ([0], BadShape), ([False], BadShape), ([[]], BadShape)]
        wrong += [([[value, 0]], BadElement) for value in bad_entries(16)]
        wrong += [([None, [0, value]], BadElement) for value in bad_entries(16)]
        check_errors(self, slant_word, {"width": 2, "heard": heard, "start": 1},
                     {"width": bad_numbers(1, 12), "heard": wrong,
                      "start": [(value, error) for value, error in bad_numbers(-40, 60) if value != -1]})
        check_same(self, slant_word(2, heard, -1), [0, 15])


class Mending(unittest.TestCase):
    def plain_mended(self, field, letters, checks, matrix, heard):
        """By the document's words: each letter from the solving row and the word that it belongs to."""
        width, found = letters + checks, []
        for t in range(len(heard)):
            row = []
            for j in range(letters):
                word = [0 if t - j + place < 0 else None if t - j + place >= len(heard) or heard[t - j + place] is None
                        else heard[t - j + place][place] for place in range(width)]
                lost = [int(sign is None) for sign in word]
                solving = solving_rows(field, width, block_rows(letters, matrix), lost)[j]
                row.append(None if solving is None else
                           plain_sum(field, solving, [0 if sign is None else sign for sign in word]))
            found.append(row)
        return found

    def test_streams(self):
        for size, (letters, checks) in itertools.product((2, 3, 8), SHAPES[:8]):
            field, matrix, numbers = Field(size), some_matrix(size, letters, checks), Numbers(size + 1)
            code = slant_code(field, letters, checks, matrix)
            for _ in range(3):
                rows = numbers.matrix(size, 9, letters)
                pattern = [int(numbers.below(3) == 0) for _ in range(9)]
                heard = heard_rows(code, encode_rows(code, rows), pattern)
                good = {"field": field, "letters": letters, "checks": checks, "matrix": matrix, "heard": heard}
                found = check_answer(self, mend_slants, good)
                check_same(self, found, self.plain_mended(field, letters, checks, matrix, heard))
                for told, row in zip(found, rows):
                    self.assertTrue(all(value in (None, letter) for value, letter in zip(told, row)))

    def test_heard_rows_of_no_stream(self):
        for letters, checks in SHAPES[:8]:
            field, matrix, numbers = Field(5), some_matrix(5, letters, checks), Numbers(letters)
            for _ in range(4):
                heard = [None if numbers.below(3) == 0 else numbers.row(5, letters + checks) for _ in range(8)]
                check_same(self, mend_slants(field, letters, checks, matrix, heard),
                           self.plain_mended(field, letters, checks, matrix, heard))

    def test_a_code_of_greatest_distance_mends_so_many_losses_of_each_word(self):
        field, matrix = Field(7), cauchy_checks(Field(7), 2, 2)
        code, numbers = slant_code(field, 2, 2, matrix), Numbers(1)
        for pattern in all_lists(2, 8):
            if any(sum(pattern[at:at + 4]) > 2 for at in range(5)):
                continue
            rows = numbers.matrix(7, 8, 2)
            told = mend_slants(field, 2, 2, matrix, heard_rows(code, encode_rows(code, rows), pattern))
            # Words that end within the pattern are mended whole.
            self.assertEqual(told[:5], rows[:5])

    def test_the_ring_code_mends_runs(self):
        for letters, checks in ((3, 2), (2, 4), (5, 3)):
            width = letters + checks
            code = slant_code(Field(2), letters, checks, ring_checks(letters, checks))
            rows = Numbers(7).matrix(2, 20, letters)
            for first in range(8):
                pattern = [int(first <= beat < first + checks) for beat in range(20)]
                heard = heard_rows(code, encode_rows(code, rows), pattern)
                told = mend_slants(Field(2), letters, checks, ring_checks(letters, checks), heard)
                self.assertEqual(told[:20 - width], rows[:20 - width])

    def test_ends(self):
        matrix = [[1], [1]]
        check_same(self, mend_slants(Field(2), 2, 1, matrix, []), [])
        check_same(self, mend_slants(Field(2), 2, 1, matrix, [None]), [[None, None]])
        check_same(self, mend_slants(Field(2), 2, 1, matrix, [[1, 1, 0]]), [[1, 1]])
        # Letter 1 of beat 0 belongs to the word that starts ahead of beat 0, with a first letter of 0.
        check_same(self, mend_slants(Field(2), 2, 1, matrix, [None, [0, 0, 1]]), [[None, 1], [0, 0]])
        check_same(self, mend_slants(Field(2), 0, 3, [], [None, [1, 0, 1]]), [[], []])
        check_same(self, mend_slants(Field(2), 1, 0, [[]], [None, [1]]), [[None], [1]])
        self.assertEqual(len(mend_slants(Field(2), 6, 6, [[1] * 6] * 6, [[0] * 12] * 60)), 60)

    def test_checks(self):
        matrix, heard = [[1], [2]], [[1, 2, 0], None]
        wrong = [(value, BadShape) for value in NO_LISTS]
        wrong += [([None] * 61, BadShape), ([[1, 2]], BadShape), ([[3, 0, 0], (0, 0, 0)], BadShape)]
        wrong += [([None, [0, 0, value]], BadElement) for value in bad_entries(3)]
        check_errors(self, mend_slants, {"field": Field(3), "letters": 2, "checks": 1, "matrix": matrix,
                                         "heard": heard},
                     {"letters": bad_numbers(0, 12), "checks": bad_numbers(0, 10),
                      "matrix": bad_matrices(3, matrix), "heard": wrong})

    def test_every_field(self):
        for size in SIZES:
            field, matrix = Field(size), ring_checks(3, 2)
            code, rows = slant_code(field, 3, 2, matrix), Numbers(size).matrix(size, 12, 3)
            heard = heard_rows(code, encode_rows(code, rows), [0, 1, 1, 0, 0, 0, 0, 0, 0, 0, 0, 0])
            self.assertEqual(mend_slants(field, 3, 2, matrix, heard), rows)


if __name__ == "__main__":
    unittest.main()
