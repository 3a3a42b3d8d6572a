import itertools
import unittest

from mendsontime.block import (
    block_words, encode_block, has_greatest_distance, is_solving, least_weight, mends_block, mends_runs, ring_checks,
    ring_rows, ring_trail, solving_rows,
)
from mendsontime.errors import BadNumber, BadShape, TooLarge
from mendsontime.field import Field
from mendsontime.solve import factors_for

from helping import (
    SIZES, Numbers, all_lists, bad_matrices, bad_numbers, bad_patterns, bad_rows, check_answer, check_call,
    check_error, check_papers, near_papers, plain_combination, plain_sum, some_matrices,
)


def plain_determined(field, width, rows, lost):
    """Whether each letter is a function of the heard signs, by all letter rows."""
    told = {}
    answer = [True] * len(rows)
    for letters in all_lists(field.size, len(rows)):
        word = plain_combination(field, width, rows, letters)
        heard = tuple(sign for sign, flag in zip(word, lost) if not flag)
        other = told.setdefault(heard, letters)
        answer = [old and x == y for old, x, y in zip(answer, letters, other)]
    return answer


def plain_runs(width, run):
    """All wrap-around runs of so many places."""
    found = []
    for first in range(width):
        lost = [0] * width
        for step in range(run):
            lost[(first + step) % width] = 1
        found.append(lost)
    return found


def told_ring(letters, checks):
    """The ring matrix by the entry: the steps of [21] followed for one place."""
    def entry(k, r, row, column):
        if r >= k:
            return int(row == column) if column < k else entry(k, r - k, row, column - k)
        return entry(r, k, column, row)
    return [[entry(letters, checks, row, column) for column in range(checks)] for row in range(letters)]


class Words(unittest.TestCase):
    def test_encode_block(self):
        for size in SIZES:
            numbers = Numbers(size)
            for high, width in ((0, 0), (0, 12), (12, 0), (12, 12), (2, 3)):
                rows, letters = numbers.matrix(size, high, width), numbers.row(size, high)
                good = {"field": Field(size), "width": width, "rows": rows, "letters": letters}
                self.assertEqual(check_answer(self, encode_block, good),
                                 plain_combination(Field(size), width, rows, letters))
        self.assertEqual(encode_block(Field(3), 3, [[1, 0, 1], [0, 1, 2]], [2, 2]), [2, 2, 0])

    def test_block_words(self):
        for field, width, rows in some_matrices():
            words = [plain_combination(field, width, rows, letters) for letters in all_lists(field.size, len(rows))]
            self.assertEqual(block_words(field, width, rows), words)
        self.assertEqual(block_words(Field(2), 3, []), [[0, 0, 0]])
        self.assertEqual(block_words(Field(2), 0, []), [[]])
        self.assertEqual(block_words(Field(2), 0, [[], []]), [[], [], [], []])
        self.assertEqual(block_words(Field(3), 1, [[1], [1]]), [[0], [1], [2], [1], [2], [0], [2], [0], [1]])

    def test_words_are_new_lists(self):
        for width, rows in ((2, [[0, 0], [0, 0]]), (0, [[], []]), (2, [[1, 1], [0, 1]]), (3, [])):
            check_answer(self, block_words, {"field": Field(2), "width": width, "rows": rows})

    def test_least_weight(self):
        for field, width, rows in some_matrices():
            letters = [row for row in all_lists(field.size, len(rows)) if any(row)]
            weights = [sum(1 for sign in plain_combination(field, width, rows, row) if sign) for row in letters]
            self.assertEqual(check_answer(self, least_weight, {"field": field, "width": width, "rows": rows}),
                             min(weights) if rows else None)
        self.assertIsNone(least_weight(Field(16), 12, []))
        self.assertEqual(least_weight(Field(2), 4, [[1, 1, 1, 1]]), 4)
        self.assertEqual(least_weight(Field(2), 7, [[1, 0, 0, 0, 1, 1, 0], [0, 1, 0, 0, 1, 0, 1],
                                                    [0, 0, 1, 0, 0, 1, 1], [0, 0, 0, 1, 1, 1, 1]]), 3)

    def test_too_many_words(self):
        most = {2: 9, 3: 5, 4: 4, 5: 3, 7: 3, 8: 3, 9: 2, 11: 2, 13: 2, 16: 2}
        for size in SIZES:
            for function in (block_words, least_weight):
                function(Field(size), 1, [[1]] * most[size])
                for many in (most[size] + 1, 12):
                    with self.assertRaises(TooLarge) as caught:
                        function(Field(size), 1, [[1]] * many)
                    self.assertEqual(caught.exception.bound, 512)
                    check_error(self, BadShape, "rows", function, Field(size), 1, [[1]] * many + [[]])
        self.assertEqual(len(block_words(Field(2), 1, [[1]] * 9)), 512)


class Solving(unittest.TestCase):
    def check_code(self, field, width, rows, lost):
        known = plain_determined(field, width, rows, lost)
        found = solving_rows(field, width, rows, lost)
        self.assertEqual([row is not None for row in found], known)
        self.assertIs(mends_block(field, width, rows, lost), all(known))
        heard = [place for place in range(width) if not lost[place]]
        columns = [[row[place] for row in rows] for place in heard]
        for letter, solving in enumerate(found):
            if solving is None:
                continue
            self.assertEqual(len(solving), width)
            self.assertFalse(any(factor and flag for factor, flag in zip(solving, lost)))
            unit = [int(at == letter) for at in range(len(rows))]
            self.assertEqual([plain_sum(field, solving, row) for row in rows], unit)
            self.assertEqual([solving[place] for place in heard], factors_for(field, len(rows), columns, unit))
        self.assertIs(is_solving(field, width, rows, lost, found), all(known))

    def test_every_small_code_and_pattern(self):
        for field, width, rows in some_matrices():
            for lost in all_lists(2, width):
                self.check_code(field, width, rows, lost)

    def test_some_codes_over_every_field(self):
        for size in SIZES:
            numbers = Numbers(size)
            for high, width in ((2, 5), (1, 12), (2, 2), (2, 12)):
                rows = numbers.matrix(size, high, width)
                for _ in range(4):
                    self.check_code(Field(size), width, rows, numbers.row(2, width))

    def test_the_one_form(self):
        field, rows = Field(5), [[1, 0, 2, 1], [0, 1, 1, 4]]
        self.assertEqual(solving_rows(field, 4, rows, [0, 0, 0, 0]), [[1, 0, 0, 0], [0, 1, 0, 0]])
        self.assertEqual(solving_rows(field, 4, rows, [1, 0, 0, 0]), [[0, 2, 3, 0], [0, 1, 0, 0]])
        self.assertEqual(solving_rows(field, 4, rows, [1, 1, 0, 0]), [[0, 0, 2, 2], [0, 0, 2, 1]])
        self.assertEqual(solving_rows(field, 4, rows, [0, 1, 1, 1]), [[1, 0, 0, 0], None])
        self.assertEqual(solving_rows(field, 4, rows, [1, 1, 1, 1]), [None, None])

    def test_edges(self):
        field = Field(3)
        self.assertEqual(solving_rows(field, 0, [], []), [])
        self.assertEqual(solving_rows(field, 0, [[], []], []), [None, None])
        self.assertEqual(solving_rows(field, 2, [], [1, 0]), [])
        self.assertIs(mends_block(field, 2, [], [1, 1]), True)
        self.assertIs(mends_block(field, 0, [], []), True)
        self.assertIs(mends_block(field, 0, [[]], []), False)
        self.assertIs(is_solving(field, 2, [], [1, 1], []), True)
        self.assertIs(is_solving(field, 0, [[]], [], [[]]), False)

    def test_papers(self):
        field, rows, lost = Field(3), [[1, 0, 1, 1], [0, 1, 1, 2]], [0, 1, 0, 0]
        found = solving_rows(field, 4, rows, lost)
        right = [found]
        for first, second in itertools.product(all_lists(3, 4), repeat=2):
            paper = [first, second]
            fits = all(row[1] == 0 for row in paper) and [
                [plain_sum(field, row, other) for other in rows] for row in paper] == [[1, 0], [0, 1]]
            self.assertIs(is_solving(field, 4, rows, lost, paper), fits)
            if fits:
                right.append(paper)
        self.assertEqual(len(right), 10)
        wrong = []
        for paper in right[:3]:
            wrong = wrong + [[near, paper[1]] for near in near_papers(3, paper[0])]
            wrong = wrong + [[paper[0], near] for near in near_papers(3, paper[1])]
            wrong = wrong + [tuple(paper), paper + [paper[1]], paper[:1], [paper[1], paper[0]], [paper[0], None], []]
        check_papers(self, is_solving, (field, 4, rows, lost), right, wrong)

    def test_a_bool_is_no_element(self):
        self.assertIs(is_solving(Field(2), 1, [[1]], [0], [[1]]), True)
        self.assertIs(is_solving(Field(2), 1, [[1]], [0], [[True]]), False)
        self.assertIs(is_solving(Field(2), 2, [[1, 0]], [0, 1], [[1, False]]), False)


class Distance(unittest.TestCase):
    def test_by_the_least_weight(self):
        # A code has greatest distance exactly if its least weight is as large as it can be.
        for field, width, rows in some_matrices():
            due = not rows or len(rows) <= width and least_weight(field, width, rows) == width - len(rows) + 1
            answer = check_answer(self, has_greatest_distance, {"field": field, "width": width, "rows": rows})
            self.assertIs(answer, due)

    def test_edges(self):
        for width in (0, 1, 12):
            self.assertIs(has_greatest_distance(Field(2), width, []), True)
        self.assertIs(has_greatest_distance(Field(2), 0, [[]]), False)
        self.assertIs(has_greatest_distance(Field(2), 1, [[1], [1]]), False)
        self.assertIs(has_greatest_distance(Field(2), 12, [[1] * 12]), True)
        self.assertIs(has_greatest_distance(Field(2), 12, [[1] * 11 + [0]]), False)
        units = [[int(i == j) for j in range(12)] for i in range(12)]
        self.assertIs(has_greatest_distance(Field(2), 12, units), True)
        self.assertIs(has_greatest_distance(Field(2), 12, units[:11]), False)


class Runs(unittest.TestCase):
    def test_every_small_code(self):
        for field, width, rows in some_matrices():
            for run in range(width + 1):
                due = all(all(plain_determined(field, width, rows, lost))
                          for lost in [[0] * width] + plain_runs(width, run))
                answer = check_answer(self, mends_runs, {"field": field, "width": width, "rows": rows, "run": run})
                self.assertIs(answer, due)

    def test_the_pattern_without_losses_is_asked(self):
        self.assertIs(mends_runs(Field(2), 0, [[]], 0), False)
        self.assertIs(mends_runs(Field(2), 0, [], 0), True)
        self.assertIs(mends_runs(Field(2), 3, [], 3), True)
        self.assertIs(mends_runs(Field(2), 2, [[1, 1], [1, 1]], 0), False)

    def test_a_run_wraps_around(self):
        # Only the run over the border, of the places 3 and 0, leaves the letter unknown.
        self.assertIs(mends_runs(Field(2), 4, [[1, 0, 0, 1]], 2), False)
        self.assertIs(mends_runs(Field(2), 4, [[1, 0, 1, 0]], 2), True)
        self.assertIs(mends_runs(Field(2), 4, [[1, 0, 1, 0]], 3), False)


class Rings(unittest.TestCase):
    def test_told_matrices(self):
        self.assertEqual(ring_checks(3, 2), [[1, 0], [0, 1], [1, 1]])
        self.assertEqual(ring_checks(2, 3), [[1, 0, 1], [0, 1, 1]])
        self.assertEqual(ring_checks(2, 2), [[1, 0], [0, 1]])
        self.assertEqual(ring_checks(1, 4), [[1, 1, 1, 1]])
        self.assertEqual(ring_checks(4, 1), [[1], [1], [1], [1]])
        self.assertEqual(ring_checks(2, 5), [[1, 0, 1, 0, 1], [0, 1, 0, 1, 1]])
        self.assertEqual(ring_checks(0, 3), [])
        self.assertEqual(ring_checks(3, 0), [[], [], []])
        self.assertEqual(ring_checks(0, 0), [])

    def test_all_matrices(self):
        for letters, checks in itertools.product(range(13), repeat=2):
            good = {"letters": letters, "checks": checks}
            matrix = check_answer(self, ring_checks, good)
            self.assertEqual(matrix, told_ring(letters, checks))
            units = [[int(i == j) for j in range(letters)] for i in range(letters)]
            self.assertEqual(check_answer(self, ring_rows, good), [a + b for a, b in zip(units, matrix)])

    def test_trails(self):
        self.assertEqual(ring_trail(3, 2), [(3, 2, "turn"), (2, 3, "copy"), (2, 1, "turn"), (1, 2, "copy"),
                                            (1, 1, "copy"), (1, 0, "end")])
        self.assertEqual(ring_trail(0, 0), [(0, 0, "end")])
        self.assertEqual(ring_trail(0, 12), [(0, 12, "end")])
        self.assertEqual(ring_trail(12, 0), [(12, 0, "end")])
        self.assertEqual(ring_trail(4, 4), [(4, 4, "copy"), (4, 0, "end")])
        for letters, checks in itertools.product(range(13), repeat=2):
            trail = check_answer(self, ring_trail, {"letters": letters, "checks": checks})
            self.assertEqual(trail[0][:2], (letters, checks))
            for (k, r, step), later in zip(trail, trail[1:]):
                self.assertTrue(k and r)
                self.assertEqual((step, later[:2]), ("copy", (k, r - k)) if r >= k else ("turn", (r, k)))
            self.assertEqual(trail[-1][2], "end")
            self.assertTrue(trail[-1][0] == 0 or trail[-1][1] == 0)

    def test_ring_codes_mend_their_runs_over_every_field(self):
        for size in SIZES:
            for letters in range(7):
                for checks in range(7 - letters):
                    rows = ring_rows(letters, checks)
                    self.assertIs(mends_runs(Field(size), letters + checks, rows, checks), True)
                    if letters:
                        run = min(checks + 1, letters + checks)
                        self.assertIs(mends_runs(Field(size), letters + checks, rows, run), False)


class Checks(unittest.TestCase):
    rows = [[1, 0, 2], [2, 0, 1]]
    good = {"field": Field(3), "width": 3, "rows": rows}
    bad = {"width": bad_numbers(0, 12), "rows": bad_matrices(3, rows, most=12)}

    def test_functions_of_rows(self):
        for function in (block_words, least_weight, has_greatest_distance):
            check_call(self, function, self.good, self.bad)

    def test_letters(self):
        check_call(self, encode_block, {**self.good, "letters": [1, 2]},
                   {**self.bad, "letters": bad_rows(3, [1, 2])})
        check_error(self, BadShape, "letters", encode_block, Field(3), 3, [], [0])

    def test_patterns(self):
        bad = {**self.bad, "pattern": bad_patterns([0, 1, 0], exact=True)}
        for function in (solving_rows, mends_block):
            check_call(self, function, {**self.good, "pattern": [0, 1, 0]}, bad)
            largest = {"field": Field(2), "width": 12, "rows": [[1] * 12] * 12, "pattern": [0] * 12}
            check_answer(self, function, largest)
        for paper in ([[0, 0, 0], [0, 0, 0]], None, ()):
            check_call(self, is_solving, {**self.good, "pattern": [0, 1, 0], "paper": paper}, bad)

    def test_runs(self):
        for run in (0, 1, 3):
            check_call(self, mends_runs, {**self.good, "run": run}, {**self.bad, "run": bad_numbers(0, 3)})
        check_error(self, BadNumber, "run", mends_runs, Field(2), 0, [], 1)

    def test_rings(self):
        for function in (ring_checks, ring_rows, ring_trail):
            for letters, checks in ((0, 0), (5, 3), (12, 12)):
                check_call(self, function, {"letters": letters, "checks": checks},
                           {"letters": bad_numbers(0, 12), "checks": bad_numbers(0, 12)})


if __name__ == "__main__":
    unittest.main()
