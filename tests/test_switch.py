import copy
import itertools
import unittest

from mendsontime.burstmake import base_code
from mendsontime.errors import BadElement, BadNumber, BadShape, TooLarge
from mendsontime.field import Field
from mendsontime.judge import is_yes, yes_table
from mendsontime.machine import (
    Machine, all_patterns, count_patterns, fewest_heard, fewest_pattern, is_within, same_patterns, separating,
    within_paper,
)
from mendsontime.mender import run_mender
from mendsontime.rules import BurstRule, WindowRule
from mendsontime.shortest import failure_by_all, is_failure, judged, shortest_failure
from mendsontime.switch import PlanRule, plan_rule, plan_signs, plan_spans, run_plan
from mendsontime.timecode import TimeCode, encode_rows

from helping import (
    NO_LISTS, NO_NUMBERS, Numbers, alike, bad_entries, bad_numbers, bad_patterns, check_answer, check_error,
    check_errors, check_papers, check_same,
)
from test_mender import some_code

PLANS = (
    [(BurstRule(1, 1), 3)],
    [(BurstRule(2, 2), 4), (BurstRule(1, 3), 5)],
    [(BurstRule(1, 2), 2), (WindowRule(3, 2, 1), 3), (BurstRule(0, 1), 1)],
    [(WindowRule(4, 2, 2), 5), (WindowRule(2, 1, 1), 1), (BurstRule(8, 8), 2), (BurstRule(1, 1), 2)],
    [(BurstRule(0, 1), 2), (BurstRule(3, 1), 1), (BurstRule(3, 1), 1), (BurstRule(0, 8), 1)],
    [(BurstRule(3, 4), 40)],
)


def keeps(parts, pattern):
    """Whether the pattern keeps the plan's rule: each part by itself, and no loss behind the last one."""
    first = 0
    for rule, beats in parts:
        if pattern[first:first + beats] not in rule:
            return False
        first += beats
    return 1 not in pattern[first:]


def plain_break(parts, pattern):
    for beat in range(len(pattern)):
        if not keeps(parts, pattern[:beat + 1]):
            return beat
    return None


def all_flags(beats):
    return [list(flags) for flags in itertools.product((0, 1), repeat=beats)]


class Rules(unittest.TestCase):
    def test_patterns(self):
        for parts in PLANS:
            rule = PlanRule(parts)
            for beats in (0, 1, 4, 7, 9, 12):
                for pattern in all_flags(beats)[::7 if beats == 12 else 1]:
                    due = plain_break(parts, pattern)
                    check_same(self, rule.first_break(pattern), due)
                    self.assertIs(pattern in rule, due is None)
        numbers = Numbers(2)
        for parts in ([(BurstRule(2, 2), 40), (WindowRule(7, 3, 2), 33), (BurstRule(1, 1), 40), (BurstRule(2, 8), 5)],
                      [(WindowRule(5, 2, 2), 40)] * 4):
            rule = PlanRule(parts=parts)
            for _ in range(300):
                beats = (118, 125, 160, 170, 800)[numbers.below(5)]
                pattern, state = [], rule.first_state()
                for beat in range(beats):
                    # Mostly patterns that keep the rule as long as they can.
                    lost = int(numbers.below(3) == 0 and (rule.after(state, 1) is not None or numbers.below(60) == 0))
                    pattern.append(lost)
                    state = rule.after(state, lost) or state
                broken = rule.first_break(pattern)
                self.assertIs(keeps(parts, pattern), broken is None)
                if broken is not None:
                    self.assertTrue(keeps(parts, pattern[:broken]))
                    self.assertFalse(keeps(parts, pattern[:broken + 1]))

    def test_states_part_by_part(self):
        rule = PlanRule([(BurstRule(2, 3), 3), (WindowRule(3, 1, 1), 2), (BurstRule(1, 1), 1)])
        check_same(self, rule.first_state(), (0, 0, 0))
        for flags, due in (([0], (0, 1, 0)), ([1], (0, 1, 1)), ([1, 1], (0, 2, 2)), ([1, 0], (0, 2, 3)),
                           ([1, 1, 0], (1, 0, (0, 0))), ([0, 1, 1], (1, 0, (0, 0))), ([1, 1, 0, 1], (1, 1, (0, 1))),
                           ([0, 0, 1, 1], (1, 1, (0, 1))), ([0, 0, 0, 1, 0], (2, 0, 0)),
                           ([0, 0, 0, 0, 1], (2, 0, 0)), ([0] * 5 + [1], (3, 0, 0)), ([0] * 6, (3, 0, 0)),
                           ([1] + [0] * 4 + [1], (3, 0, 0)), ([0] * 7, (3, 0, 0)), ([0] * 40, (3, 0, 0))):
            state = rule.first_state()
            for lost in flags:
                state = rule.after(state, lost)
            check_same(self, state, due)
        for state in ((0, 2, 2), (1, 1, (0, 1)), (1, 1, (1, 0)), (3, 0, 0)):
            self.assertIsNone(rule.after(state, 1))
        check_same(self, rule.after((1, 1, (1, 0)), 0), (2, 0, 0))
        check_same(self, rule.after(state=(3, 0, 0), lost=0), (3, 0, 0))
        check_answer(self, rule.after, {"state": (1, 0, (0, 0)), "lost": 1})
        # A first state of an inner rule that is a tuple stands in the state as it is.
        check_same(self, PlanRule([(WindowRule(2, 1, 1), 1)]).first_state(), (0, 0, (0,)))
        check_same(self, PlanRule([(WindowRule(7, 1, 1), 1)]).first_state(), (0, 0, (0,) * 6))

    def test_a_stretch_over_a_border(self):
        rule = PlanRule([(BurstRule(2, 5), 4), (BurstRule(2, 5), 4)])
        for pattern, due in (([0, 0, 1, 1, 1, 1, 0, 0], None), ([0, 1, 1, 0, 1, 1, 0, 0], None),
                             ([0, 1, 1, 1, 0, 0, 0, 0], 3), ([0, 0, 1, 1, 1, 1, 1, 0], 6),
                             ([1, 0, 0, 0, 1, 0, 0, 0, 1], 8), ([1, 1, 0, 0, 0, 0, 0, 1, 1], 8)):
            check_same(self, rule.first_break(pattern), due)

    def test_equal_rules(self):
        made = [PlanRule(parts) for parts in PLANS]
        made += [PlanRule([(BurstRule(1, 1), 4)]), PlanRule([(BurstRule(1, 2), 3)]),
                 PlanRule([(BurstRule(1, 1), 3), (BurstRule(1, 1), 3)]), PlanRule([(WindowRule(2, 1, 1), 3)])]
        again = [PlanRule(copy.deepcopy(parts)) for parts in PLANS]
        for i, rule in enumerate(made):
            for j, other in enumerate(made):
                self.assertIs(rule == other, i == j)
                self.assertIs(rule != other, i != j)
            for j, other in enumerate(again):
                self.assertIs(rule == other, i == j)
                self.assertIs(other == rule, i == j)
            for value in NO_NUMBERS + (BurstRule(1, 1), WindowRule(2, 1, 1), [(BurstRule(1, 1), 3)], "rule"):
                self.assertIs(rule == value, False)
            self.assertIs(BurstRule(1, 1) == rule, False)
            self.assertIs(WindowRule(2, 1, 1) == rule, False)

    def test_beats(self):
        for parts in PLANS:
            check_same(self, PlanRule(parts).beats, sum(beats for _, beats in parts))
        with self.assertRaises(AttributeError):
            PlanRule(PLANS[0]).beats = 1

    def test_checks(self):
        one = BurstRule(1, 1)
        for parts in NO_LISTS + ([], [(one, 3)] * 5, ((one, 3),), [[one, 3]], [(one, 3), None], [(one,)], [(one, 3, 0)],
                                 [one], [()], [(one, 0)] * 5, [(one, None), 1]):
            check_error(self, BadShape, "parts", PlanRule, parts)
        for value, error in bad_numbers(1, 40):
            check_error(self, error, "parts", PlanRule, [(one, value)])
            check_error(self, error, "parts", PlanRule, [(one, 3), (one, value)])
        rule = PlanRule([(one, 2), (WindowRule(2, 1, 1), 2)])
        for value, error in bad_numbers(0, 1):
            for state in ((0, 0, 0), (0, 1, 1), (1, 0, (0,)), (2, 0, 0)):
                check_error(self, error, "lost", rule.after, state, value)
        for value, error in bad_patterns([0, 1, 0], exact=False) + [([0] * 801, BadShape), ([None] * 801, BadShape)]:
            check_error(self, error, "pattern", rule.first_break, value)
            check_error(self, error, "pattern", rule.__contains__, value)
        check_same(self, rule.first_break([1] * 800), 1)
        check_same(self, rule.first_break([0] * 799 + [1]), 799)
        check_answer(self, rule.first_break, {"pattern": [0, 1, 1]})

    def test_parts_are_copied(self):
        parts = [(BurstRule(1, 1), 2)]
        rule = PlanRule(parts)
        parts.append((BurstRule(1, 1), 2))
        parts[0] = (BurstRule(0, 1), 1)
        self.assertTrue(rule == PlanRule([(BurstRule(1, 1), 2)]))
        self.assertEqual(rule.beats, 2)


class Machines(unittest.TestCase):
    def test_machine(self):
        machine = Machine(PlanRule([(BurstRule(1, 2), 2), (WindowRule(2, 1, 1), 1)]))
        check_same(self, list(machine), [((0, 0, 0), 1, 2), ((0, 1, 0), 3, 3), ((0, 1, 1), 3, None),
                                         ((1, 0, (0,)), 4, 4), ((2, 0, 0), 4, None)])
        check_same(self, machine.many, 5)
        check_same(self, machine.states(), [state for state, _, _ in machine])
        for place, state in enumerate(machine.states()):
            check_same(self, machine.place_of(state), place)
        for state in ((0, 0, 1), (3, 0, 0), 0, (0,), (0, 0), (1, 0, 0), (2, 0, (0,))):
            self.assertIsNone(machine.place_of(state))
        long = PlanRule([(WindowRule(7, 6, 2), 40), (BurstRule(3, 5), 40)])
        with self.assertRaises(TooLarge) as caught:
            Machine(long)
        self.assertEqual(caught.exception.bound, 64)
        with self.assertRaises(TooLarge):
            Machine(long, bound=400)
        exact = PlanRule([(BurstRule(0, 1), 40)] * 4)
        self.assertEqual(Machine(exact, bound=161).many, 161)
        with self.assertRaises(TooLarge):
            Machine(exact, bound=160)

    def test_patterns_of_a_plan(self):
        for parts in PLANS:
            rule = PlanRule(parts)
            for beats in range(11):
                due = [pattern for pattern in all_flags(beats) if keeps(parts, pattern)]
                self.assertEqual(count_patterns(rule, beats), len(due))
                least = min(pattern.count(0) for pattern in due)
                check_same(self, fewest_heard(rule, beats), least)
                check_same(self, fewest_pattern(rule, beats),
                           max(pattern for pattern in due if pattern.count(0) == least))
                if beats < 9:
                    check_same(self, all_patterns(rule, beats), due)
        # More than 400 states: the numbers of the parts are multiplied.
        parts = [(WindowRule(7, 6, 2), 25), (WindowRule(7, 4, 3), 25), (BurstRule(2, 2), 10)]
        rule = PlanRule(parts)
        many = 1
        for part, beats in parts:
            many *= count_patterns(part, beats)
        check_same(self, count_patterns(rule, 60), many)
        check_same(self, fewest_heard(rule, 60), sum(fewest_heard(part, beats) for part, beats in parts))
        check_same(self, fewest_pattern(rule, 60),
                   [flag for part, beats in parts for flag in fewest_pattern(part, beats)])

    def test_rules_compared(self):
        rules = [PlanRule(parts) for parts in PLANS] + [BurstRule(2, 2), BurstRule(8, 1), BurstRule(0, 1),
                                                        WindowRule(3, 2, 1)]
        for rule, other in itertools.product(rules, repeat=2):
            broken = separating(rule, other)
            tried = next((pattern for beats in range(1, 9) for pattern in all_flags(beats)
                          if pattern in rule and pattern not in other), None)
            check_same(self, broken if broken is None or len(broken) < 9 else None, tried)
            pairs = within_paper(rule, other)
            self.assertEqual(pairs is None, broken is not None)
            self.assertIs(is_within(rule, other, pairs), pairs is not None)
            if pairs is not None:
                check_same(self, pairs[0], (rule.first_state(), other.first_state()))
                self.assertIs(is_within(rule, other, pairs[:1] + pairs[:0:-1]), True)
                self.assertIs(is_within(rule, other, pairs[:-1]), False)
        one = PlanRule([(BurstRule(1, 2), 3), (BurstRule(1, 2), 3)])
        self.assertIs(same_patterns(one, PlanRule([(WindowRule(3, 1, 1), 3)] * 2)), True)
        self.assertIs(same_patterns(one, PlanRule([(BurstRule(1, 2), 6)])), False)
        check_same(self, separating(one, PlanRule([(BurstRule(1, 2), 6)])), [0, 0, 1, 1])
        check_same(self, separating(BurstRule(1, 1), one), [1, 0, 1])
        check_papers(self, is_within, (PlanRule([(BurstRule(0, 1), 1)]), BurstRule(0, 1)),
                     [[((0, 0, 0), 0), ((1, 0, 0), 0)]],
                     [[((0, 0, 0), 0)], [((0, 0, 0), 0), ((True, 0, 0), 0)], [((0, 0, False), 0), ((1, 0, 0), 0)],
                      [([0, 0, 0], 0), ((1, 0, 0), 0)], [((1, 0, 0), 0), ((0, 0, 0), 0)],
                      [((0, 0, 0), 0), ((1, 0, 0), 0), ((1, 0, 0), 0)], [[(0, 0, 0), 0], [(1, 0, 0), 0]]])
        with self.assertRaises(TooLarge) as caught:
            separating(PlanRule([(BurstRule(0, 1), 40)] * 4), BurstRule(0, 1), bound=160)
        self.assertEqual(caught.exception.bound, 160)
        self.assertEqual(len(within_paper(PlanRule([(BurstRule(0, 1), 40)] * 4), BurstRule(0, 1), bound=161)), 161)


class Judged(unittest.TestCase):
    def test_codes_judged_over_plans(self):
        numbers = Numbers(21)
        yes = no = 0
        codes = [(some_code(numbers, 2, 1, 2, 2), 1 + turn % 3) for turn in range(10)]
        codes += [(base_code(Field(2), 1, 1), 1), (base_code(Field(2), 2, 2), 2), (base_code(Field(3), 3, 3), 3)]
        for code, delay in codes:
            for parts in PLANS[:5]:
                rule = PlanRule(parts)
                tried = failure_by_all(code, rule, delay, 6)
                found = shortest_failure(code, rule, delay)
                if found is None:
                    yes += 1
                    self.assertIsNone(tried)
                    table = yes_table(code, rule, delay)
                    self.assertIs(is_yes(code, rule, delay, table), True)
                    self.assertEqual(judged(code, rule, delay)[0], "yes")
                    changed = [((0, 0, 1), *table[0][1:])] + table[1:]
                    self.assertIs(is_yes(code, rule, delay, changed), False)
                else:
                    no += 1
                    self.assertEqual(tried, found[0] if len(found[0]) < 7 else None)
                    self.assertIs(is_failure(code, rule, delay, found), True)
        self.assertGreater(yes, 4)
        self.assertGreater(no, 20)

    def test_bursts_over_a_border_may_fail(self):
        code = base_code(Field(2), 1, 1)
        self.assertIsNotNone(yes_table(code, PlanRule([(BurstRule(1, 1), 9)]), 1))
        rule = PlanRule([(BurstRule(1, 1), 2), (BurstRule(1, 1), 2)])
        check_same(self, shortest_failure(code, rule, 1)[0], [0, 1, 1])


def some_plans():
    numbers = Numbers(14)
    for _ in range(60):
        plan = []
        for _ in range(1 + numbers.below(4)):
            size, letters = ((2, 1), (3, 2), (16, 3), (5, 0), (4, 1))[numbers.below(5)]
            code = some_code(numbers, size, letters, 1 + numbers.below(3), numbers.below(4) if letters else 0)
            plan.append((code, 1 + numbers.below(6), numbers.below(6)))
        rows = [numbers.row(code.field.size, code.letters) for code, _, beats in plan for _ in range(beats)]
        yield plan, rows


def parts_of(plan, rows):
    """The code, the delay and the rows of each part."""
    found, first = [], 0
    for code, delay, beats in plan:
        found.append((code, delay, rows[first:first + beats]))
        first += beats
    return found


class Plans(unittest.TestCase):
    def test_spans(self):
        code = base_code(Field(2), 1, 1)
        check_same(self, plan_spans([(code, 2, 5), (code, 1, 0), (code, 6, 20)]), [(0, 5, 7), (7, 7, 8), (8, 28, 34)])
        check_same(self, plan_spans([(code, 1, 0)]), [(0, 0, 1)])
        for plan, rows in some_plans():
            spans = check_answer(self, plan_spans, {"plan": plan})
            clock = 0
            for (first, tail, end), (_, delay, beats) in zip(spans, plan, strict=True):
                self.assertEqual((first, tail, end), (clock, clock + beats, clock + beats + delay))
                clock = end

    def test_signs(self):
        for plan, rows in some_plans():
            due = [signs for code, delay, part in parts_of(plan, rows) for signs in encode_rows(code, part, tail=delay)]
            check_same(self, check_answer(self, plan_signs, {"plan": plan, "rows": rows}), due)
            self.assertEqual(len(due), plan_spans(plan)[-1][2])
        # Each part begins anew: nothing of the first part is in the signs of the second one.
        code = TimeCode(Field(3), 1, 1, [[[1]], [[1]]])
        check_same(self, plan_signs([(code, 1, 1), (code, 1, 2)], [[2], [1], [1]]), [[2], [2], [1], [2], [1]])

    def test_runs(self):
        numbers = Numbers(15)
        lost = 0
        for plan, rows in some_plans():
            signs = plan_signs(plan, rows)
            pattern = [int(numbers.below(4) == 0) for _ in signs]
            due, at = [], 0
            for code, delay, part in parts_of(plan, rows):
                end = at + len(part) + delay
                heard = [None if pattern[beat] else signs[beat] for beat in range(at, end)]
                due.extend(run_mender(code, delay, heard, tail=delay).mended())
                at = end
            found = check_answer(self, run_plan, {"plan": plan, "rows": rows, "pattern": pattern})
            check_same(self, found, due)
            for row, told in zip(rows, found, strict=True):
                for letter, value in zip(row, told, strict=True):
                    self.assertIn(value, (None, letter))
                    lost += value is None
        self.assertGreater(lost, 20)

    def test_codes_that_mend_their_parts(self):
        numbers = Numbers(16)
        plan = [(base_code(Field(2), 1, 2), 2, 12), (base_code(Field(9), 2, 3), 3, 0),
                (base_code(Field(4), 3, 3), 3, 20)]
        rules = [BurstRule(1, 2), BurstRule(2, 3), BurstRule(3, 3)]
        rule = plan_rule(plan=plan, rules=rules)
        self.assertTrue(rule == PlanRule([(rules[0], 14), (rules[1], 3), (rules[2], 23)]))
        self.assertEqual(rule.beats, plan_spans(plan)[-1][2])
        for _ in range(30):
            rows = [numbers.row(code.field.size, code.letters) for code, _, beats in plan for _ in range(beats)]
            pattern, state = [], rule.first_state()
            for _ in range(rule.beats):
                lost = int(numbers.below(2) and rule.after(state, 1) is not None)
                pattern.append(lost)
                state = rule.after(state, lost)
            self.assertTrue(pattern in rule)
            check_same(self, run_plan(plan, rows, pattern), rows)

    def test_tail_beats_are_known(self):
        code = TimeCode(Field(2), 1, 1, [[[1]], [[1]]])
        plan = [(code, 1, 1), (code, 1, 1)]
        check_same(self, run_plan(plan, [[1], [1]], [1, 0, 1, 0]), [[1], [1]])
        check_same(self, run_plan(plan, [[1], [1]], [1, 1, 0, 1]), [[None], [1]])
        check_same(self, run_plan([(code, 6, 0)], [], [1] * 6), [])

    def test_largest_plan(self):
        numbers = Numbers(17)
        code = some_code(numbers, 16, 12, 12, 12)
        plan = [(code, 6, 20)] * 4
        rows = numbers.matrix(16, 80, 12)
        self.assertEqual(len(plan_signs(plan, rows)), 104)
        self.assertEqual(plan_spans(plan)[-1], (78, 98, 104))
        self.assertTrue(plan_rule(plan, [BurstRule(1, 1)] * 4) == PlanRule([(BurstRule(1, 1), 26)] * 4))


class PlanChecks(unittest.TestCase):
    def setUp(self):
        self.first, self.second = base_code(Field(2), 1, 2), base_code(Field(5), 1, 1)
        self.plan = [(self.first, 2, 2), (self.second, 1, 1)]
        self.rows = [[1, 0], [1, 1], [4]]

    def bad_plans(self):
        code = self.first
        found = [(value, BadShape) for value in NO_LISTS + (tuple(self.plan), [], [(code, 1, 1)] * 5)]
        found += [([self.plan[0], wrong], BadShape)
                  for wrong in (None, [code, 1, 1], (code, 1), (code, 1, 1, 1), (), 3)]
        # The shape of all parts goes ahead of the numbers of the first.
        found += [([(code, 0, 0), (code, 1)], BadShape), ([(code, None, None)] * 5, BadShape)]
        for value, error in bad_numbers(1, 6):
            found.append(([self.plan[0], (code, value, 1)], error))
        for value, error in bad_numbers(0, 20):
            found.append(([(code, 1, value), self.plan[1]], error))
        return found

    def bad_rows(self):
        rows = self.rows
        found = [(value, BadShape) for value in NO_LISTS + (tuple(rows), [], rows[:2], rows + [[0]])]
        found += [([rows[0], wrong, rows[2]], BadShape) for wrong in ([1], [1, 1, 1], (1, 1), None, 1, "11")]
        found += [([rows[0], rows[1], [1, 1]], BadShape), ([[2, None], rows[1], []], BadShape)]
        for value in bad_entries(2):
            found.append(([[1, value]] + rows[1:], BadElement))
        for value in bad_entries(5):
            found.append((rows[:2] + [[value]], BadElement))
        return found

    def test_plan_spans(self):
        for value, error in self.bad_plans():
            check_error(self, error, "plan", plan_spans, value)
            check_error(self, error, "plan", plan_spans, plan=value)

    def test_plan_rule(self):
        rules = [BurstRule(1, 1), WindowRule(3, 1, 1)]
        bad = [(value, BadShape) for value in NO_LISTS + (tuple(rules), rules[:1], rules + rules[:1], [])]
        check_errors(self, plan_rule, {"plan": self.plan, "rules": rules}, {"plan": self.bad_plans(), "rules": bad})

    def test_rows_and_patterns(self):
        good = {"plan": self.plan, "rows": self.rows}
        bad = {"plan": self.bad_plans(), "rows": self.bad_rows()}
        check_errors(self, plan_signs, good, bad)
        pattern = [0, 1, 0, 0, 0, 0]
        bad["pattern"] = bad_patterns(pattern, exact=True)
        check_errors(self, run_plan, {**good, "pattern": pattern}, bad)
        check_same(self, run_plan(**good, pattern=pattern), self.rows)
        # An entry may be an element of the field of one part and not of another one.
        self.assertTrue(alike(plan_signs(self.plan, self.rows)[4:], [[4, 0], [0, 4]]))
        check_error(self, BadElement, "rows", plan_signs, self.plan, [[1, 0], [1, 4], [4]])


if __name__ == "__main__":
    unittest.main()
