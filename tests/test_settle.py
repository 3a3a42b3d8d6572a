import copy
import itertools
import unittest

from mendsontime.bar import bar_paper
from mendsontime.burstmake import Making, base_code, can_make, copies_code
from mendsontime.errors import BadNumber, TooLarge
from mendsontime.field import Field
from mendsontime.judge import is_yes, yes_table
from mendsontime.rules import BurstRule, WindowRule
from mendsontime.settle import (
    all_codes, codes_that_mend, greatest_burst, is_settled, least_delay, most_letters, settle,
)
from mendsontime.shortest import failure_by_all, shortest_failure
from mendsontime.switch import PlanRule
from mendsontime.timecode import TimeCode

from helping import (
    NO_NUMBERS, ODD_PAPERS, SIZES, Numbers, alike, bad_numbers, check_error, check_errors, check_same, lists_in, spoil,
)
from test_mender import some_code

SETTINGS = [(letters, signs, burst, delay) for letters in range(9) for signs in range(max(1, letters), 9)
            for burst in range(9) for delay in range(1, 7)]

SETTING = {"letters": 2, "signs": 4, "burst": 3, "delay": 3}
BAD_SETTING = {"letters": bad_numbers(0, 8), "signs": bad_numbers(2, 8), "burst": bad_numbers(0, 8),
               "delay": bad_numbers(1, 6)}

# A rule of more than 400 states, all of whose losses stand far apart.
LONG = PlanRule([(WindowRule(5, 1, 1), 40), (BurstRule(0, 1), 40), (WindowRule(5, 1, 1), 40)])


def due_multiple(letters, signs, burst):
    if letters == 0 or burst == 0:
        return 1
    return next(m for m in range(1, 99) if m * (signs - letters) % burst == 0)


def is_large(letters, signs, burst, delay):
    return can_make(letters, signs, burst, delay) and signs * due_multiple(letters, signs, burst) > 12


class MostLetters(unittest.TestCase):
    def test_against_all(self):
        for signs, burst, delay in itertools.product(range(1, 9), range(9), range(1, 7)):
            due = max(letters for letters in range(signs + 1) if can_make(letters, signs, burst, delay))
            check_same(self, most_letters(signs, burst, delay), due)
        check_same(self, [most_letters(8, 8, 1), most_letters(8, 0, 1), most_letters(2, 1, 1), most_letters(8, 1, 6)],
                   [0, 8, 1, 6])
        check_errors(self, most_letters, {"signs": 3, "burst": 1, "delay": 2},
                     {"signs": bad_numbers(1, 8), "burst": bad_numbers(0, 8), "delay": bad_numbers(1, 6)})


class Settled(unittest.TestCase):
    def test_every_setting(self):
        large = 0
        for number, setting in enumerate(SETTINGS):
            letters, signs, burst, delay = setting
            field = Field(SIZES[number % 10])
            if is_large(*setting):
                large += 1
                with self.assertRaises(TooLarge) as caught:
                    settle(field, *setting)
                check_same(self, caught.exception.bound, 12)
                self.assertIs(is_settled(field, *setting, None), False)
                continue
            paper = settle(field, *setting)
            self.assertIs(type(paper), tuple)
            if not can_make(*setting):
                check_same(self, paper, ("bar", *bar_paper(*setting)))
            else:
                making = Making(field, *setting)
                word, multiple, code, table = paper
                check_same(self, (word, multiple), ("code", due_multiple(letters, signs, burst)))
                self.assertTrue(code == making.code)
                check_same(self, table, yes_table(code, BurstRule(burst, delay), delay))
                self.assertIs(is_yes(code, BurstRule(burst, delay), delay, table), True)
                if letters:
                    self.assertLessEqual(len(table), 1 + burst * delay)
            if number % 3 == 0:
                self.assertIs(is_settled(field, *setting, paper), True)
        self.assertGreater(large, 50)

    def test_every_field(self):
        for size in SIZES:
            for setting in ((3, 5, 2, 3), (2, 4, 3, 3), (1, 3, 2, 1), (0, 1, 8, 1), (2, 2, 0, 1), (2, 3, 2, 2)):
                found = settle(field=Field(size), letters=setting[0], signs=setting[1], burst=setting[2],
                               delay=setting[3])
                self.assertEqual(found[0], "code" if can_make(*setting) else "bar")
                self.assertIs(is_settled(Field(size), *setting, found), True)

    def test_answers_are_new(self):
        for setting in ((1, 2, 1, 1), (1, 1, 1, 1)):
            first = settle(Field(2), *setting)
            second = settle(Field(2), *setting)
            self.assertTrue(all(alike(a, b) for a, b in zip(first, second)))
            found = lists_in(first)
            self.assertEqual(len(set(map(id, found))), len(found))
            self.assertFalse(set(map(id, found)) & set(map(id, lists_in(second))))
            kept = copy.deepcopy(second[3:])
            spoil(first)
            self.assertTrue(alike(settle(Field(2), *setting)[3:], kept))
            self.assertTrue(alike(second[3:], kept))

    def test_checks(self):
        good = {"field": Field(2), **SETTING}
        check_errors(self, settle, good, BAD_SETTING)
        for paper in (None, ("bar", [1], 1, 0), ODD_PAPERS[-1]):
            check_errors(self, is_settled, {**good, "paper": paper}, BAD_SETTING)
        # A wrong number goes ahead of a setting that is too large.
        for letters, signs, burst, delay in SETTINGS:
            if is_large(letters, signs, burst, delay):
                check_error(self, BadNumber, "delay", settle, Field(2), letters, signs, burst, 7)
        for letters in range(9):
            check_error(self, BadNumber, "signs", settle, Field(2), letters, max(1, letters) - 1, None, None)


class Papers(unittest.TestCase):
    def check_papers(self, setting, right, wrong, field=Field(3)):
        for paper in right:
            self.assertIs(is_settled(field, *setting, paper), True, repr(paper)[:200])
        for paper in list(wrong) + list(ODD_PAPERS):
            self.assertIs(is_settled(field, *setting, paper=paper), False, repr(paper)[:200])

    def test_codes(self):
        field, setting = Field(3), (1, 2, 1, 1)
        code, rule = base_code(field, 1, 1), BurstRule(1, 1)
        table = yes_table(code, rule, 1)
        other = TimeCode(field, 1, 2, [[[2, 0]], [[0, 1]]])
        twofold = copies_code(field, 2, 1, 1)
        twelve = copies_code(field, 6, 1, 1)
        right = [("code", 1, code, table), ("code", 1, other, yes_table(other, rule, 1)),
                 # The multiple need not be that of the setting.
                 ("code", 2, twofold, yes_table(twofold, rule, 1)), ("code", 6, twelve, yes_table(twelve, rule, 1)),
                 # The table may know less, and have rows twice.
                 ("code", 1, TimeCode(field, 1, 2, [[[1, 0]], [[0, 1]], [[0, 0]]]), table)]
        weak = TimeCode(field, 1, 2, [[[1, 1]]])
        wide = TimeCode(field, 1, 3, [[[1, 0, 0]], [[0, 1, 0]]])
        wrong = [["code", 1, code, table], ("code", 1, code), ("code", 1, code, table, None), ("Code", 1, code, table),
                 ("bar", 1, code, table), (code, 1, code, table), ("code", code, code, table), ("code", 1, table, code),
                 ("code", True, code, table), ("code", 2, code, table), ("code", 0, code, table),
                 ("code", 13, code, table), ("code", -1, code, table), ("code", None, code, table),
                 ("code", 1, twofold, table), ("code", 1, twofold, yes_table(twofold, rule, 1)),
                 ("code", 1, weak, table),
                 ("code", 1, wide, yes_table(wide, rule, 1)), ("code", 1, code, table[:1]), ("code", 1, code, []),
                 ("code", 1, code, tuple(table)), ("code", 1, code, None), ("code", 1, code, code),
                 ("code", 1, code, [code]), ("code", 1, code, [(code, [], None, None)]), code, [code], (code,) * 4,
                 ("code", 1, None, table), ("code", 1, "code", table), ("code", 1, [[[1, 0]]], table),
                 ("code", 1, base_code(Field(2), 1, 1), yes_table(base_code(Field(2), 1, 1), rule, 1)),
                 ("code", 1, base_code(Field(9), 1, 1), table), ("bar", code, 2, 1), ("bar", [1, 0, 1], code, code),
                 ("bar", [code], 2, 1), ("bar", [1, 0, 1], 2, 1)]
        state, known, heard, lost = table[0]
        for changed in ((1, known, heard, lost), (code, known, heard, lost), (state, code, heard, lost),
                        (state, [[code]], heard, lost), (state, known, code, lost), (state, known, heard, None),
                        (state, known, heard, code), (state, known, (code, *heard[1:]), lost),
                        (state, known, (heard[0], code, heard[2]), lost), (False, known, heard, lost),
                        (state, known, (heard[0], [[code, 0, 0]], heard[2]), lost),
                        (state, known, (heard[0], [[0, 0, 0]], heard[2]), lost)):
            wrong.append(("code", 1, code, [changed] + table[1:]))
        self.check_papers(setting, right, wrong)

    def test_bars(self):
        right = [("bar", [1, 0, 1], 2, 1), ("bar", [0, 1, 0, 1, 0, 1], 5, 3), ("bar", [1, 0, 1, 0], 3, 2)]
        code = base_code(Field(3), 1, 1)
        wrong = [["bar", [1, 0, 1], 2, 1], ("bar", ([1, 0, 1], 2, 1)), ("bar", [1, 0, 1], 2),
                 ("bar", [1, 0, 1], 2, 1, 0), ("Bar", [1, 0, 1], 2, 1), (True, [1, 0, 1], 2, 1),
                 ("bar", [1, 0, 1], 2, True), ("bar", [1, 1, 1], 2, 0),
                 ("bar", [1, 0, code], 2, 1), ("code", [1, 0, 1], 2, 1), (code, [1, 0, 1], 2, 1), ("bar", code, 2, 1),
                 ("bar", (1, 0, 1), 2, 1), ([1, 0, 1], 2, 1), ("code", 1, code, yes_table(code, BurstRule(1, 1), 1))]
        self.check_papers((1, 1, 1, 1), right, wrong)
        # A setting that can be made has no bar, and one that can not has no code.
        for setting in SETTINGS[::17]:
            paper = bar_paper(*setting)
            if paper is not None:
                self.assertIs(is_settled(Field(2), *setting, ("bar", *paper)), True)
            else:
                self.assertIs(is_settled(Field(2), *setting, ("bar", [1, 0, 1], 2, 1)), False)

    def test_forged_tables(self):
        # The table of another code, delay or burst is not one of this code.
        setting = (2, 3, 1, 2)
        code = Making(Field(3), *setting).code
        wrong = [("code", 1, code, yes_table(code, BurstRule(0, 2), 2)),
                 ("code", 1, code, yes_table(code, WindowRule(3, 1, 1), 2)),
                 ("code", 1, code, yes_table(code, BurstRule(1, 2), 3)),
                 ("code", 1, TimeCode(Field(3), 2, 3, [[[1, 0, 0], [0, 1, 0]]]), yes_table(code, BurstRule(1, 2), 2))]
        self.check_papers(setting, [settle(Field(3), *setting)], wrong)
        table = yes_table(code, BurstRule(1, 2), 2)
        numbers = Numbers(4)
        for _ in range(200):
            at, beat = numbers.below(len(table)), 2 + numbers.below(2)
            move = table[at][beat]
            if move is None:
                continue
            part = 1 + numbers.below(2)
            rows = copy.deepcopy(move[part])
            if not rows or not rows[0]:
                continue
            i, j = numbers.below(len(rows)), numbers.below(len(rows[0]))
            rows[i][j] = (rows[i][j] + 1) % 3
            moves = [move if at_beat != beat else move[:part] + (rows,) + move[part + 1:]
                     for at_beat, move in ((2, table[at][2]), (3, table[at][3]))]
            changed = table[:at] + [table[at][:2] + tuple(moves)] + table[at + 1:]
            # Where the rows of the stack depend on each other, other factors may be right as well.
            due = is_yes(code, BurstRule(1, 2), 2, changed)
            self.assertIs(is_settled(Field(3), *setting, ("code", 1, code, changed)), due)

    def test_multiples(self):
        # Without losses the plain code of any multiple mends; with 12 signs the multiple is 12 at the most.
        field = Field(2)
        for multiple in range(1, 13):
            code = TimeCode(field, multiple, multiple, [[[int(i == j) for i in range(multiple)]
                                                         for j in range(multiple)]])
            table = yes_table(code, BurstRule(0, 1), 1)
            for told in range(0, 14):
                self.assertIs(is_settled(field, 1, 1, 0, 1, ("code", told, code, table)), told == multiple)

    def test_without_letters(self):
        field = Field(2)
        code = TimeCode(field, 0, 3, [[]])
        for burst, delay in ((8, 1), (0, 6), (8, 6)):
            table = yes_table(code, BurstRule(burst, delay), delay)
            self.check_papers((0, 3, burst, delay), [("code", 1, code, table)],
                              [("code", 2, code, table), ("bar", [], 0, 0)], field)
            twofold = TimeCode(field, 0, 6, [[]])
            self.assertIs(is_settled(field, 0, 3, burst, delay,
                                     ("code", 2, twofold, yes_table(twofold, BurstRule(burst, delay), delay))), True)


class Delays(unittest.TestCase):
    def test_least_delay(self):
        numbers = Numbers(44)
        found = {}
        codes = [some_code(numbers, 2, 1, 2, 1 + numbers.below(4)) for _ in range(40)]
        codes += [base_code(Field(3), burst, delay) for delay in range(1, 5) for burst in range(delay + 1)]
        for code in codes:
            for rule in (BurstRule(1, 2), BurstRule(0, 1), BurstRule(2, 3), WindowRule(3, 1, 1), BurstRule(8, 1),
                         PlanRule([(BurstRule(1, 1), 3), (BurstRule(2, 2), 4)])):
                due = next((delay for delay in range(1, 7) if yes_table(code, rule, delay) is not None), None)
                check_same(self, least_delay(code, rule), due)
                if due is not None and due > 1:
                    self.assertIsNotNone(shortest_failure(code, rule, due - 1))
                found[due] = found.get(due, 0) + 1
        self.assertGreater(len(found), 4)
        check_same(self, [least_delay(base_code(Field(2), 2, 3), BurstRule(2, 3)),
                          least_delay(code=base_code(Field(2), 2, 6), rule=BurstRule(2, 6)),
                          least_delay(TimeCode(Field(2), 1, 1, [[[1]]]), BurstRule(1, 1)),
                          least_delay(TimeCode(Field(2), 0, 1, [[]]), BurstRule(8, 1))], [3, 6, None, 1])

    def test_letters_that_are_late(self):
        # The only sign is the letter of so many beats ago.
        for late in range(9):
            code = TimeCode(Field(3), 1, 1, [[[0]]] * late + [[[1]]])
            check_same(self, least_delay(code, BurstRule(0, 1)), max(1, late) if late <= 6 else None)

    def test_least_delay_too_large(self):
        with self.assertRaises(TooLarge) as caught:
            least_delay(TimeCode(Field(2), 0, 1, [[]]), LONG)
        check_same(self, caught.exception.bound, 400)
        # The first delay fails soon; the second one, at which the code mends, has too many rows.
        code = base_code(Field(2), 1, 2)
        self.assertEqual(shortest_failure(code, LONG, 1)[0], [1, 0])
        with self.assertRaises(TooLarge) as caught:
            least_delay(code, LONG)
        check_same(self, caught.exception.bound, 400)
        # A code that fails at each delay is not too large.
        self.assertIsNone(least_delay(TimeCode(Field(2), 1, 1, [[[1]]]), LONG))

    def test_greatest_burst(self):
        numbers = Numbers(45)
        found = {}
        codes = [some_code(numbers, 2, 1, 2, 1 + numbers.below(4)) for _ in range(40)]
        codes += [base_code(Field(3), burst, delay) for delay in range(1, 5) for burst in range(delay + 1)]
        for code in codes:
            for delay in (1, 2, 4):
                mended = [yes_table(code, BurstRule(burst, delay), delay) is not None for burst in range(9)]
                due = mended.index(False) - 1 if False in mended else 8
                check_same(self, greatest_burst(code, delay), due if due >= 0 else None)
                found[due] = True
        self.assertGreater(len(found), 4)
        check_same(self, [greatest_burst(base_code(Field(2), 2, 3), 3),
                          greatest_burst(code=TimeCode(Field(2), 1, 1, [[[0]]]), delay=2),
                          greatest_burst(TimeCode(Field(2), 1, 1, [[[1]]]), 6),
                          greatest_burst(TimeCode(Field(2), 0, 1, [[]]), 6)], [2, None, 0, 8])
        for value, error in bad_numbers(1, 6):
            check_error(self, error, "delay", greatest_burst, codes[0], value)


def plain_codes(size, letters, signs, memory):
    """The taps of all codes, as nested tuples, their entries ascending."""
    rows = list(itertools.product(range(size), repeat=signs))
    matrices = list(itertools.product(rows, repeat=letters))
    return list(itertools.product(matrices, repeat=memory + 1))


class AllCodes(unittest.TestCase):
    def test_all_codes(self):
        tried = 0
        for size, letters, signs, memory in itertools.product(SIZES, range(5), range(1, 5), range(4)):
            if size ** (letters * signs * (memory + 1)) > 256:
                with self.assertRaises(TooLarge) as caught:
                    all_codes(Field(size), letters, signs, memory)
                check_same(self, caught.exception.bound, 256)
                with self.assertRaises(TooLarge) as caught:
                    codes_that_mend(Field(size), letters, signs, memory, LONG, 1)
                check_same(self, caught.exception.bound, 256)
                continue
            tried += 1
            field = Field(size)
            found = all_codes(field, letters, signs, memory)
            due = plain_codes(size, letters, signs, memory)
            self.assertEqual(len(found), size ** (letters * signs * (memory + 1)))
            for code, taps in zip(found, due, strict=True):
                made = TimeCode(field, letters, signs, [[list(row) for row in tap] for tap in taps])
                self.assertTrue(code == made)
                check_same(self, [code.tap(delay) for delay in range(memory + 1)],
                           [[list(row) for row in tap] for tap in taps])
        self.assertGreater(tried, 50)
        self.assertEqual([code.memory for code in all_codes(Field(2), 1, 1, 2)], [0, 2, 1, 2, 0, 2, 1, 2])
        self.assertEqual(len(all_codes(field=Field(2), letters=0, signs=4, memory=3)), 1)

    def test_checks(self):
        good = {"field": Field(2), "letters": 1, "signs": 2, "memory": 1}
        bad = {"letters": bad_numbers(0, 4), "signs": bad_numbers(1, 4), "memory": bad_numbers(0, 3)}
        check_errors(self, all_codes, good, bad)
        check_errors(self, codes_that_mend, {**good, "rule": BurstRule(1, 1), "delay": 1},
                     {**bad, "delay": bad_numbers(1, 6)})
        # Every wrong number goes ahead of codes that are too many.
        for value in NO_NUMBERS + (4, -1):
            check_error(self, BadNumber, "memory", all_codes, Field(16), 4, 4, value)
        for value, error in bad_numbers(1, 6):
            check_error(self, error, "delay", codes_that_mend, Field(16), 4, 4, 3, LONG, value)
            check_error(self, error, "delay", codes_that_mend, Field(2), 0, 1, 0, LONG, value)


class CodesThatMend(unittest.TestCase):
    def test_against_the_judge(self):
        some = 0
        for size, letters, signs, memory in ((2, 1, 2, 1), (2, 1, 1, 3), (3, 1, 2, 1), (2, 2, 2, 1), (2, 1, 2, 3),
                                             (4, 1, 2, 0), (16, 1, 1, 1), (2, 0, 2, 2), (2, 2, 1, 1)):
            field = Field(size)
            for rule, delay in ((BurstRule(1, 1), 1), (BurstRule(1, 2), 2), (BurstRule(0, 1), 1),
                                (WindowRule(3, 1, 1), 2), (PlanRule([(BurstRule(1, 1), 2), (BurstRule(0, 1), 1)]), 1)):
                found = codes_that_mend(field, letters, signs, memory, rule, delay)
                due = [code for code in all_codes(field, letters, signs, memory)
                       if yes_table(code, rule, delay) is not None]
                self.assertEqual(len(found), len(due))
                self.assertTrue(all(code == other for code, other in zip(found, due)))
                some += len(found)
        self.assertGreater(some, 100)

    def test_against_all_patterns(self):
        for rule, delay in ((BurstRule(1, 1), 1), (BurstRule(1, 2), 2)):
            found = codes_that_mend(Field(2), 1, 2, 1, rule, delay)
            for code in all_codes(Field(2), 1, 2, 1):
                self.assertEqual(code in found, failure_by_all(code, rule, delay, 7) is None)
        found = codes_that_mend(field=Field(2), letters=1, signs=2, memory=1, rule=BurstRule(1, 1), delay=1)
        self.assertTrue(base_code(Field(2), 1, 1) in found)

    def test_settings_that_can_not_be_made(self):
        for size, letters, signs, memory in ((2, 1, 1, 3), (2, 1, 2, 2), (3, 1, 1, 2), (2, 2, 1, 1), (2, 2, 2, 1),
                                             (5, 2, 1, 0), (2, 3, 1, 0), (4, 1, 1, 1), (16, 2, 1, 0)):
            for burst, delay in itertools.product((0, 1, 2, 3), (1, 2, 3)):
                made = burst <= delay and letters * (delay + burst) <= signs * delay
                found = codes_that_mend(Field(size), letters, signs, memory, BurstRule(burst, delay), delay)
                if not made:
                    check_same(self, found, [])
                elif burst == 0:
                    self.assertGreater(len(found), 0)

    def test_too_large(self):
        with self.assertRaises(TooLarge) as caught:
            codes_that_mend(Field(2), 1, 2, 1, LONG, 1)
        check_same(self, caught.exception.bound, 400)
        with self.assertRaises(TooLarge) as caught:
            codes_that_mend(Field(2), 0, 1, 0, LONG, 1)
        check_same(self, caught.exception.bound, 400)
        # All codes of one sign fail soon.
        check_same(self, codes_that_mend(Field(2), 1, 1, 1, LONG, 1), [])


if __name__ == "__main__":
    unittest.main()
