import copy
import functools
import itertools
import unittest

from mendsontime.burstmake import Making, base_code
from mendsontime.cauchy import cauchy_checks
from mendsontime.errors import BadNumber, TooLarge
from mendsontime.field import Field
from mendsontime.judge import is_yes, know_after, know_first, stack_of, yes_table
from mendsontime.machine import all_patterns
from mendsontime.reason import mends
from mendsontime.rules import BurstRule, WindowRule
from mendsontime.slant import slant_code
from mendsontime.solve import factors_for, null_rows, reduced
from mendsontime.timecode import TimeCode

from helping import (
    ODD_PAPERS, Ladder, Numbers, Steps, all_lists, all_streams, alike, bad_matrices, bad_numbers, check_answer, check_error,
    check_errors, check_papers, check_same, plain_combination, plain_signs, plain_sum,
)


def small_codes():
    yield TimeCode(Field(2), 1, 1, [[[1]]])
    yield TimeCode(Field(2), 1, 2, [[[1, 0]], [[0, 1]]])
    yield TimeCode(Field(2), 1, 2, [[[1, 0]], [[0, 0]], [[0, 1]]])
    yield TimeCode(Field(2), 1, 1, [[[1]], [[1]], [[1]]])
    yield TimeCode(Field(2), 1, 2, [[[1, 1]], [[0, 1]]])
    yield TimeCode(Field(2), 1, 1, [[[0]], [[1]]])
    yield TimeCode(Field(2), 1, 2, [[[0, 0]], [[1, 0]], [[0, 0]], [[0, 1]]])
    yield TimeCode(Field(3), 1, 2, [[[1, 0]], [[0, 2]]])
    yield TimeCode(Field(2), 2, 3, [[[1, 0, 0], [0, 1, 0]], [[0, 0, 1], [0, 0, 0]], [[0, 0, 0], [0, 0, 1]]])
    yield TimeCode(Field(2), 2, 3, [[[1, 0, 1], [0, 1, 0]], [[0, 0, 0], [0, 0, 1]]])


def random_codes(many):
    numbers = Numbers(many)
    for _ in range(many):
        size, letters, signs = (2, 3, 4, 2)[numbers.below(4)], 1 + numbers.below(2), 1 + numbers.below(3)
        taps = [[[numbers.below(size) * numbers.below(2) for _ in range(signs)] for _ in range(letters)]
                for _ in range(1 + numbers.below(3))]
        yield TimeCode(Field(size), letters, signs, taps)


def plain_stack(code, delay, known, lost):
    """The stack by the words of the document."""
    rows = [list(row) + [0] * code.letters for row in known]
    if not lost:
        for sign in range(code.signs):
            rows.append([code.tap(delay - at)[j][sign] for at in range(delay + 1) for j in range(code.letters)])
    return rows


def plain_after(code, delay, known, lost):
    """The next known matrix by the words of the document, or None if the beat is not in time."""
    stack, width = plain_stack(code, delay, known, lost), code.letters * (delay + 1)
    for place in range(code.letters):
        if factors_for(code.field, width, stack, [int(at == place) for at in range(width)]) is None:
            return None
    return [row[code.letters:] for row in reduced(code.field, width, stack) if not any(row[:code.letters])]


def plain_table(code, rule, delay):
    """The table of the walk, or the pattern of its failure; and the numbers of rows when each look came."""
    width = code.letters * delay
    rows = [(rule.first_state(), [[int(i == j) for j in range(width)] for i in range(width)])]
    patterns, table = [[]], []
    for at, (state, known) in enumerate(rows):
        moves = []
        for lost in (0, 1):
            following = rule.after(state, lost)
            if following is None:
                moves.append(None)
                continue
            fresh = plain_after(code, delay, known, lost)
            if fresh is None:
                return patterns[at] + [lost], len(rows)
            if (following, fresh) not in rows:
                rows.append((following, fresh))
                patterns.append(patterns[at] + [lost])
            stack = plain_stack(code, delay, known, lost)
            wide = code.letters * (delay + 1)
            goals = [[int(i == j) for j in range(wide)] for i in range(code.letters)]
            goals += [[0] * code.letters + row for row in fresh]
            factors = [factors_for(code.field, wide, stack, goal) for goal in goals]
            moves.append((rows.index((following, fresh)), factors[:code.letters], factors[code.letters:]))
        table.append((state, known, *moves))
    return table, len(rows)


CASES = [(code, rule, delay) for code in small_codes() for delay in (1, 2, 3)
         for rule in (BurstRule(1, delay), BurstRule(2, 2), BurstRule(0, 1), WindowRule(3, 1, 1), WindowRule(4, 2, 2))]


@functools.cache
def some_tables():
    """Finished tables of different codes and rules."""
    found = [(base_code(Field(2), 1, 1), BurstRule(1, 1), 1), (base_code(Field(3), 1, 2), BurstRule(1, 2), 2),
             (base_code(Field(2), 2, 3), BurstRule(2, 3), 3), (base_code(Field(2), 2, 2), WindowRule(3, 2, 1), 2),
             (slant_code(Field(4), 1, 2, cauchy_checks(Field(4), 1, 2)), WindowRule(3, 2, 2), 2)]
    return [(code, rule, delay, yes_table(code, rule, delay)) for code, rule, delay in found]


class Knowledge(unittest.TestCase):
    def test_know_first(self):
        for code in small_codes():
            for delay in range(1, 7):
                width = code.letters * delay
                due = [[int(i == j) for j in range(width)] for i in range(width)]
                check_same(self, check_answer(self, know_first, {"code": code, "delay": delay}), due)
        for value, error in bad_numbers(1, 6):
            check_error(self, error, "delay", know_first, base_code(Field(2), 1, 1), value)

    def plain_known(self, code, delay, pattern):
        """What the signs of the beats so far say of the last letters, against all streams; None behind a failure.

        The streams begin `delay` beats ahead of beat 0, with rows of zeros there.
        """
        letters, beats = code.letters, len(pattern)
        left = []
        for rows in all_streams(code.field.size, letters, beats):
            if all(flag or not any(plain_signs(code, rows, beat)) for beat, flag in enumerate(pattern)):
                left.append([0] * (letters * delay) + [entry for row in rows for entry in row])
        ahead, width = letters * beats, letters * delay
        if any(any(flat[:ahead]) for flat in left):
            return None
        return null_rows(code.field, width, reduced(code.field, width, [flat[ahead:] for flat in left]))

    def test_beat_by_beat_against_all_facts(self):
        for code in small_codes():
            for delay in (1, 2, 3):
                for pattern in all_lists(2, 5 if code.letters == 1 and code.field.size == 2 else 3):
                    known = know_first(code, delay)
                    for beat, lost in enumerate(pattern):
                        in_time, known = know_after(code, delay, known, lost)
                        due = self.plain_known(code, delay, pattern[:beat + 1])
                        self.assertIs(in_time, due is not None)
                        if due is None:
                            self.assertIsNone(known)
                            break
                        self.assertEqual(known, reduced(code.field, code.letters * delay, due))

    def test_in_time_is_mended(self):
        for code in small_codes():
            for delay in (1, 2, 3):
                for pattern in all_lists(2, 6):
                    known, in_time = know_first(code, delay), True
                    for lost in pattern:
                        in_time, known = know_after(code, delay, known, lost)
                        if not in_time:
                            break
                    self.assertIs(in_time, mends(code, delay, pattern))

    def test_any_known_matrix(self):
        for code in list(small_codes()) + list(random_codes(20)):
            numbers = Numbers(code.signs)
            for delay in (1, 2):
                width = code.letters * delay
                for high in (0, 1, width, width + 3):
                    known = numbers.matrix(code.field.size, high, width)
                    for lost in (0, 1):
                        good = {"code": code, "delay": delay, "known": known, "lost": lost}
                        check_same(self, check_answer(self, stack_of, good), plain_stack(code, delay, known, lost))
                        due = plain_after(code, delay, known, lost)
                        check_same(self, check_answer(self, know_after, good), (due is not None, due))

    def test_told_stacks(self):
        code = base_code(Field(2), 1, 1)
        check_same(self, stack_of(code, 1, [[1]], 0), [[1, 0], [0, 1], [1, 0]])
        check_same(self, stack_of(code, 1, [[1]], 1), [[1, 0]])
        check_same(self, stack_of(code, 1, [], 0), [[0, 1], [1, 0]])
        check_same(self, stack_of(code, 1, [], 1), [])
        check_same(self, know_after(code, 1, [[1]], 1), (True, []))
        check_same(self, know_after(code, 1, [], 1), (False, None))
        check_same(self, know_after(code, 1, [[0], [1], [1]], 0), (True, [[1]]))
        # Taps beyond the delay do not appear.
        check_same(self, stack_of(TimeCode(Field(3), 1, 1, [[[1]], [[0]], [[2]]]), 1, [[1]], 0), [[1, 0], [0, 1]])
        check_same(self, stack_of(TimeCode(Field(3), 1, 1, [[[1]], [[0]], [[2]]]), 2, [], 0), [[2, 0, 1]])

    def test_without_letters(self):
        code = TimeCode(Field(2), 0, 2, [[]])
        check_same(self, know_first(code, 3), [])
        check_same(self, stack_of(code, 3, [[]], 0), [[], [], []])
        check_same(self, stack_of(code, 3, [[]], 1), [[]])
        check_same(self, know_after(code, 3, [[], []], 0), (True, []))
        check_same(self, know_after(code, 3, [], 1), (True, []))

    def test_checks(self):
        code = TimeCode(Field(3), 2, 2, [[[1, 0], [0, 1]], [[0, 2], [0, 0]]])
        known = [[1, 2, 0, 0], [0, 0, 1, 1]]
        bad = {"delay": bad_numbers(1, 6), "known": bad_matrices(3, known, most=100), "lost": bad_numbers(0, 1)}
        for function in (know_after, stack_of):
            check_errors(self, function, {"code": code, "delay": 2, "known": known, "lost": 0}, bad)
            function(code, 2, [[0, 1, 2, 0]] * 100, 0)


class Tables(unittest.TestCase):
    def test_every_walk(self):
        for code, rule, delay in CASES:
            due, _ = plain_table(code, rule, delay)
            table = yes_table(code, rule, delay)
            if due and type(due[0]) is int:
                self.assertIsNone(table)
            else:
                check_same(self, table, due)
                self.assertIs(is_yes(code, rule, delay, table), True)

    def test_random_codes(self):
        for code in random_codes(60):
            for rule, delay in ((BurstRule(1, 1), 1), (BurstRule(1, 2), 2), (WindowRule(3, 1, 1), 2)):
                due, _ = plain_table(code, rule, delay)
                table = yes_table(code, rule, delay)
                check_same(self, table, None if due and type(due[0]) is int else due)
                tried = all(mends(code, delay, pattern) for beats in range(1, 7)
                            for pattern in all_patterns(rule, beats))
                if table is not None:
                    self.assertTrue(tried)
                elif len(due) <= 6:
                    self.assertFalse(tried)

    def test_the_example(self):
        check_same(self, yes_table(base_code(Field(2), 1, 1), BurstRule(1, 1), 1), [
            (0, [[1]], (0, [[1, 0, 0]], [[0, 1, 0]]), (1, [[1]], [])), (1, [], (0, [[0, 1]], [[1, 0]]), None)])

    def test_makings_mend(self):
        for setting in ((1, 2, 2, 2), (3, 5, 2, 3), (2, 4, 3, 3), (6, 8, 2, 6), (4, 8, 4, 4), (3, 3, 0, 4)):
            making = Making(Field(3), *setting)
            rule = BurstRule(making.burst, making.delay)
            table = yes_table(making.code, rule, making.delay)
            self.assertIs(is_yes(making.code, rule, making.delay, table), True)
            self.assertLessEqual(len(table), 1 + making.burst * making.delay)
            self.assertIsNone(yes_table(making.code, BurstRule(making.burst + 1, making.delay), making.delay))

    def test_without_letters(self):
        code = TimeCode(Field(2), 0, 2, [[]])
        check_same(self, yes_table(code, BurstRule(1, 2), 3), [
            (0, [], (0, [], []), (1, [], [])), (1, [], (2, [], []), None), (2, [], (0, [], []), None)])

    def test_bounds(self):
        for code, rule, delay in CASES[::2]:
            due, many = plain_table(code, rule, delay)
            table = yes_table(code, rule, delay, bound=many)
            check_same(self, table, None if due and type(due[0]) is int else due)
            for bound in range(1, many):
                with self.assertRaises(TooLarge) as caught:
                    yes_table(code, rule, delay, bound=bound)
                check_same(self, caught.exception.bound, bound)

    def test_a_failure_ahead_of_the_bound(self):
        # The walk fails at the heard beat of row 1, ahead of the many states that are still to come.
        code = TimeCode(Field(2), 1, 1, [[[1]]])
        self.assertIsNone(yes_table(code, Ladder(900, False), 1, bound=2))
        with self.assertRaises(TooLarge) as caught:
            yes_table(code, Ladder(900, False), 1, bound=1)
        self.assertEqual(caught.exception.bound, 1)

    def test_four_hundred_rows(self):
        code = TimeCode(Field(2), 1, 1, [[[1]]])
        self.assertEqual(len(yes_table(code, Steps(399), 1)), 400)
        self.assertIs(is_yes(code, Steps(399), 1, yes_table(code, Steps(399), 1)), True)
        for bound, beats in ((400, 400), (7, 7)):
            with self.assertRaises(TooLarge) as caught:
                yes_table(code, Steps(beats), 1, bound=bound)
            self.assertEqual(caught.exception.bound, bound)
        with self.assertRaises(TooLarge) as caught:
            yes_table(code, Steps(400), 1)
        self.assertEqual(caught.exception.bound, 400)

    def test_checks(self):
        code, rule = base_code(Field(2), 1, 1), BurstRule(1, 1)

        def called(code, rule, delay, bound):
            return yes_table(code, rule, delay, bound=bound)
        check_errors(self, called, {"code": code, "rule": rule, "delay": 1, "bound": 9},
                     {"delay": bad_numbers(1, 6), "bound": bad_numbers(1, 400)})
        # The errors of the arguments go ahead of a table that is too large.
        check_error(self, BadNumber, "delay", yes_table, code, Steps(900), 0, bound=1)
        for paper in (None, [], ODD_PAPERS[-1]):
            check_errors(self, is_yes, {"code": code, "rule": rule, "delay": 1, "paper": paper},
                         {"delay": bad_numbers(1, 6)})

    def test_answers_are_new(self):
        for code, rule, delay, _ in some_tables():
            check_answer(self, yes_table, {"code": code, "rule": rule, "delay": delay})


def renumbered(table, order):
    """The table with its rows in another order."""
    places = {old: new for new, old in enumerate(order)}
    rows = [copy.deepcopy(table[old]) for old in order]
    return [(state, known, *[move and (places[move[0]], *move[1:]) for move in moves])
            for state, known, *moves in rows]


def with_row(table, at, row):
    return table[:at] + [row] + table[at + 1:]


def with_move(table, at, lost, move):
    row = table[at]
    return with_row(table, at, row[:2 + lost] + (move,) + row[3 + lost:])


def null_factors(code, delay, known, lost):
    """Factors, not all 0, of an all-zero combination of the stack, or None."""
    stack = plain_stack(code, delay, known, lost)
    columns = [list(column) for column in zip(*stack)]
    found = null_rows(code.field, len(stack), columns)
    return found[0] if found else None


class OtherForms(unittest.TestCase):
    def test_rows_in_any_order(self):
        for code, rule, delay, table in some_tables():
            for order in ([0] + list(range(1, len(table)))[::-1], [0] + list(range(2, len(table))) + [1]):
                self.assertIs(is_yes(code, rule, delay, renumbered(table, order)), True)
            order = list(range(1, len(table))) + [0]
            self.assertIs(is_yes(code, rule, delay, renumbered(table, order)), False)

    def test_other_factors(self):
        for code, rule, delay, table in some_tables():
            changed = 0
            for at, lost in itertools.product(range(len(table)), (0, 1)):
                move, null = table[at][2 + lost], null_factors(code, delay, table[at][1], lost)
                if move is None or null is None:
                    continue
                due = [[code.field.plus(x, y) for x, y in zip(row, null)] for row in move[1]]
                keep = [[code.field.plus(x, y) for x, y in zip(row, null)] for row in move[2]]
                self.assertNotEqual(due, move[1])
                self.assertIs(is_yes(code, rule, delay, with_move(table, at, lost, (move[0], due, keep))), True)
                changed += 1
            self.assertGreater(changed, 0)

    def test_known_matrices_of_another_form(self):
        # Rows of the known matrix are doubled, so the factors get zeros for the doubles.
        for code, rule, delay, table in some_tables():
            rows = []
            for state, known, *moves in table:
                wide = [move and (move[0], [self.spread(row, len(known)) for row in move[1]],
                                  [self.spread(row, len(known)) for row in move[2] * 2]) for move in moves]
                rows.append((state, known + known, *wide))
            self.assertIs(is_yes(code, rule, delay, rows), True)
            self.assertIs(is_yes(code, rule, delay, with_row(rows, 0, table[0])), False)

    def spread(self, factors, known):
        return factors[:known] + [0] * known + factors[known:]

    def test_the_same_pair_in_two_rows(self):
        for code, rule, delay, table in some_tables():
            target = table[0][2][0]
            twin = table + [copy.deepcopy(table[target])]
            self.assertIs(is_yes(code, rule, delay, with_move(twin, 0, 0, (len(table), *table[0][2][1:]))), True)
            # The twin is reached by nobody.
            self.assertIs(is_yes(code, rule, delay, twin), False)

    def test_row_0_may_know_less(self):
        code, rule = base_code(Field(2), 1, 1), BurstRule(0, 1)
        self.assertIs(is_yes(code, rule, 1, [(0, [], (0, [[0, 1]], []), None)]), True)
        self.assertIs(is_yes(code, rule, 1, [(0, [], (0, [[1, 0]], []), None)]), False)
        # What is known need not be kept whole.
        table = [(0, [[1]], (1, [[1, 0, 0]], []), None), (0, [], (1, [[0, 1]], []), None)]
        self.assertIs(is_yes(code, rule, 1, table), True)
        self.assertIs(is_yes(code, rule, 1, table[:1]), False)

    def test_without_letters(self):
        code = TimeCode(Field(3), 0, 2, [[]])
        right = [[(0, [], (0, [], []), None)], [(0, [[], []], (0, [], [[1, 2, 0, 0], [2, 2, 2, 2]]), None)]]
        wrong = [[(0, [[]], (0, [], []), None)], [(0, [[]], (0, [], [[1, 2]]), None)],
                 [(0, [[]], (0, [], [[1, 2, 3]]), None)], [(0, [[0]], (0, [], [[0, 0, 0]]), None)],
                 [(0, [], (0, [[]], []), None)], [(0, [], (0, [], []), (0, [], []))]]
        check_papers(self, is_yes, (code, BurstRule(0, 1), 2), right, wrong)


class WrongTables(unittest.TestCase):
    def test_of_each_kind(self):
        for code, rule, delay, table in some_tables():
            wrong = [[], table[:-1], table + table[-1:], tuple(table), [list(row) for row in table],
                     [row[:3] for row in table], [row + (None,) for row in table], [None] * len(table), table[::-1],
                     [table]]
            wrong += [with_row(table, at, row) for at in range(len(table)) for row in (None, [], (), table[at][:3])]
            check_papers(self, is_yes, (code, rule, delay), [table], wrong)

    def test_states(self):
        for code, rule, delay, table in some_tables():
            for at, (state, *rest) in enumerate(table):
                others = [None, 99, -1, (), "0", [state], (state,), table[at - 1][0], True, False]
                if type(state) is tuple:
                    others += [list(state), tuple(bool(flag) for flag in state), state + (0,), state[1:], 0]
                for other in others:
                    if not alike(other, state):
                        self.assertIs(is_yes(code, rule, delay, with_row(table, at, (other, *rest))), False)

    def test_known_matrices(self):
        for code, rule, delay, table in some_tables():
            width = code.letters * delay
            for at, (state, known, *moves) in enumerate(table):
                others = [None, 0, tuple(known), known + [[0] * width], known[:-1], [[1] * width] * 101,
                          [row + [0] for row in known] or None, [row[:-1] for row in known] or None,
                          [tuple(row) for row in known] or None]
                if known:
                    others += [[[bool(entry) for entry in known[0]]] + known[1:], [[None] * width] + known[1:],
                               [[code.field.size] + known[0][1:]] + known[1:], [[-1] + known[0][1:]] + known[1:]]
                for other in others:
                    if not alike(other, known):
                        wrong = with_row(table, at, (state, other, *moves))
                        self.assertIs(is_yes(code, rule, delay, wrong), False)

    def test_moves(self):
        for code, rule, delay, table in some_tables():
            for at, lost in itertools.product(range(len(table)), (0, 1)):
                move = table[at][2 + lost]
                if move is None:
                    others = [(0, [], []), table[at][2], 0, [], ()]
                else:
                    others = [None, list(move), move[:2], move + (None,), (len(table), *move[1:]), (-1, *move[1:]),
                              (None, *move[1:]), (str(move[0]), *move[1:]), (0, [], []), ()]
                    others += [(other, *move[1:]) for other in (True, False)]
                    others += [(other, *move[1:]) for other in range(len(table)) if table[other][0] != table[move[0]][0]]
                for other in others:
                    self.assertIs(is_yes(code, rule, delay, with_move(table, at, lost, other)), False, (at, lost))

    def test_factors(self):
        for code, rule, delay, table in some_tables():
            for at, lost, part in itertools.product(range(len(table)), (0, 1), (1, 2)):
                move = table[at][2 + lost]
                if move is None:
                    continue
                rows, size = move[part], code.field.size
                others = [None, tuple(rows), rows + [[0] * len(rows[0])] if rows else [[]], rows[:-1] if rows else 0]
                if rows:
                    first = rows[0]
                    others += [rows[:-1] + [tuple(rows[-1])], rows[:-1] + [rows[-1] + [0]], rows[:-1] + [rows[-1][:-1]],
                               rows[:-1] + [None], [[bool(entry) for entry in first]] + rows[1:],
                               [[entry + size for entry in first]] + rows[1:],
                               [[entry - size for entry in first]] + rows[1:], [[None] * len(first)] + rows[1:]]
                    stack = plain_stack(code, delay, table[at][1], lost)
                    width = code.letters * (delay + 1)
                    for place in range(len(first)):
                        if any(stack[place]):
                            other = [(entry + (i == place)) % size for i, entry in enumerate(first)]
                            self.assertNotEqual(plain_combination(code.field, width, stack, other),
                                                plain_combination(code.field, width, stack, first))
                            others.append([other] + rows[1:])
                for other in others:
                    wrong = list(move)
                    wrong[part] = other
                    self.assertIs(is_yes(code, rule, delay, with_move(table, at, lost, tuple(wrong))), False)

    def test_another_code_rule_or_delay(self):
        code, rule, delay, table = some_tables()[2]
        for other in (base_code(Field(3), 2, 3), base_code(Field(2), 1, 3), TimeCode(Field(2), 3, 5, [code.tap(0)])):
            self.assertIs(is_yes(other, rule, delay, table), False)
        for other in (BurstRule(3, 3), BurstRule(2, 2), BurstRule(1, 3), WindowRule(4, 2, 1), BurstRule(2, 4)):
            self.assertIs(is_yes(code, other, delay, table), False)
        for other in (1, 2, 4):
            self.assertIs(is_yes(code, rule, other, table), False)

    def test_exactly_400_and_401_rows(self):
        code, rule = TimeCode(Field(2), 1, 1, [[[1]]]), BurstRule(0, 1)
        for many, due in ((1, True), (400, True), (401, False)):
            table = [(0, [[1]], ((at + 1) % many, [[1, 0]], [[0, 1]]), None) for at in range(many)]
            self.assertIs(is_yes(code, rule, 1, table), due)

    def test_exactly_100_and_101_known_rows(self):
        code, rule = TimeCode(Field(2), 1, 1, [[[1]]]), BurstRule(0, 1)
        for many, due in ((100, True), (101, False)):
            factors = [0] * many + [1]
            first = [1] + [0] * many
            table = [(0, [[1]] * many, (0, [first], [factors] * many), None)]
            self.assertIs(is_yes(code, rule, 1, table), due)

    def test_a_code_that_fails_has_no_table(self):
        code, rule = TimeCode(Field(2), 1, 1, [[[1]]]), BurstRule(1, 1)
        check_papers(self, is_yes, (code, rule, 1), [], [
            [(0, [[1]], (0, [[1, 0]], [[0, 1]]), (1, [[1]], [])), (1, [], (0, [[1]], [[1]]), None)],
            [(0, [[1]], (0, [[1, 0]], [[0, 1]]), (1, [[1]], [])), (1, [], (0, [[0]], [[1]]), None)],
            [(0, [[1]], (0, [[1, 0]], [[0, 1]]), (1, [[1]], [])), (1, [], None, None)],
            [(0, [[1]], (0, [[1, 0]], [[0, 1]]), None)]])
        self.assertEqual(plain_sum(Field(2), [1], [1]), 1)


if __name__ == "__main__":
    unittest.main()
