import itertools
import unittest

from mendsontime.errors import BadNumber, TooLarge
from mendsontime.machine import (
    Machine, all_patterns, count_patterns, fewest_heard, fewest_pattern, is_within, same_patterns, separating,
    within_paper,
)
from mendsontime.patterns import round_pattern
from mendsontime.rules import BurstRule, WindowRule

from helping import (
    Ladder, Numbers, Steps, all_lists, alike, bad_numbers, check_answer, check_error, check_papers, check_same,
)

RULES = (
    [BurstRule(burst, gap) for burst in range(4) for gap in (1, 2, 3)] + [BurstRule(8, 8), BurstRule(5, 1)]
    + [WindowRule(window, burst, few) for window in range(2, 6) for burst in range(window)
       for few in range(min(1, burst), burst + 1)]
)
SOME = RULES[:9:2] + RULES[14::5]


class Choice:
    """A rule by which a lost first beat bars all later losses."""

    def first_state(self):
        return 0

    def after(self, state, lost):
        if state == 0:
            return 2 if lost else 1
        return None if lost and state == 2 else state


def plain_machine(rule):
    """The states and moves of the walk in plain words."""
    states, moves = [rule.first_state()], []
    for state in states:
        found = [rule.after(state, 0), rule.after(state, 1)]
        for following in found:
            if following is not None and following not in states:
                states.append(following)
        moves.append(found)
    return [(state, states.index(heard), None if lost is None else states.index(lost))
            for state, (heard, lost) in zip(states, moves)]


def kept_patterns(rule, beats):
    return [pattern for pattern in all_lists(2, beats) if pattern in rule]


def plain_walk(rule, other):
    """The events of the walk over pairs: new pairs, and a pattern at last if there is one."""
    pairs, patterns, events = [(rule.first_state(), other.first_state())], [[]], []
    for at, pair in enumerate(pairs):
        for lost in (0, 1):
            if rule.after(pair[0], lost) is None:
                continue
            if other.after(pair[1], lost) is None:
                return pairs, events + [("broken", patterns[at] + [lost])]
            fresh = (rule.after(pair[0], lost), other.after(pair[1], lost))
            if fresh not in pairs:
                pairs.append(fresh)
                patterns.append(patterns[at] + [lost])
                events.append(("new", len(pairs)))
    return pairs, events


def plain_outcome(rule, other, bound):
    """What the walk comes to first: too many pairs, a pattern, or nothing."""
    for word, value in plain_walk(rule, other)[1]:
        if word == "broken":
            return value
        if value > bound:
            return "large"
    return None


class Machines(unittest.TestCase):
    def test_told_machines(self):
        check_same(self, list(Machine(BurstRule(2, 3))),
                   [(0, 0, 1), (1, 2, 3), (3, 4, None), (2, 2, None), (4, 0, None)])
        self.assertEqual(Machine(BurstRule(2, 3)).states(), [0, 1, 3, 2, 4])
        check_same(self, list(Machine(BurstRule(0, 3))), [(0, 0, None)])
        check_same(self, list(Machine(BurstRule(1, 1))), [(0, 0, 1), (1, 0, None)])
        check_same(self, list(Machine(WindowRule(3, 2, 1))),
                   [((0, 0), 0, 1), ((0, 1), 2, 3), ((1, 0), 0, None), ((1, 1), 2, None)])

    def test_every_rule(self):
        for rule in RULES:
            machine = Machine(rule)
            due = plain_machine(rule)
            check_same(self, list(machine), due)
            check_same(self, [row for row in machine], due)
            check_same(self, machine.states(), [state for state, _, _ in due])
            check_same(self, machine.many, len(due))
            for place, (state, _, _) in enumerate(due):
                check_same(self, machine.place_of(state), place)

    def test_place_of_other_states(self):
        machine = Machine(BurstRule(2, 3))
        for state in (5, 99, -1, (), (0,), (0, 0), (1, 0, (0, 1))):
            self.assertIsNone(machine.place_of(state))
        self.assertIsNone(Machine(WindowRule(3, 2, 1)).place_of(0))
        self.assertIsNone(Machine(WindowRule(3, 1, 1)).place_of((1, 1)))
        self.assertEqual(Machine(WindowRule(3, 1, 1)).place_of(state=tuple([1, 0])), 2)

    def test_bound(self):
        for rule in RULES:
            many = len(plain_machine(rule))
            self.assertEqual(Machine(rule, bound=many).many, many)
            if many > 1:
                with self.assertRaises(TooLarge) as caught:
                    Machine(rule=rule, bound=many - 1)
                check_same(self, caught.exception.bound, many - 1)
        self.assertEqual(Machine(WindowRule(7, 6, 6)).many, 64)

    def test_the_bound_is_a_number_from_1_to_400(self):
        for value, _ in bad_numbers(1, 400):
            check_error(self, BadNumber, "bound", lambda bound: Machine(BurstRule(2, 2), bound=bound), value)
        self.assertEqual(Machine(Ladder(399, False), bound=400).many, 400)
        for bound, length in ((400, 400), (400, 900), (64, 64), (1, 1)):
            with self.assertRaises(TooLarge) as caught:
                Machine(Ladder(length, False), bound=bound)
            self.assertEqual(caught.exception.bound, bound)
        with self.assertRaises(TooLarge) as caught:
            Machine(Ladder(64, False))
        self.assertEqual(caught.exception.bound, 64)

    def test_lists_are_new(self):
        machine = Machine(BurstRule(2, 3))
        check_answer(self, machine.states, {})
        found = list(machine)
        found.reverse()
        self.assertEqual(list(machine)[0], (0, 0, 1))
        self.assertEqual(machine.states(), [0, 1, 3, 2, 4])
        with self.assertRaises(AttributeError):
            machine.many = 3


class Counts(unittest.TestCase):
    def test_short_patterns(self):
        for rule in RULES:
            for beats in range(9):
                kept = kept_patterns(rule, beats)
                self.assertEqual(count_patterns(rule, beats), len(kept))
                self.assertEqual(all_patterns(rule, beats), kept)
                heard = [pattern.count(0) for pattern in kept]
                self.assertEqual(fewest_heard(rule, beats), min(heard))
                self.assertEqual(fewest_pattern(rule, beats),
                                 max(pattern for pattern in kept if pattern.count(0) == min(heard)))

    def test_no_beats(self):
        for rule in RULES:
            check_same(self, all_patterns(rule, 0), [[]])
            check_same(self, [count_patterns(rule, 0), fewest_heard(rule, 0)], [1, 0])
            check_same(self, fewest_pattern(rule, 0), [])

    def test_ten_beats(self):
        self.assertEqual(all_patterns(WindowRule(2, 1, 1), 10), kept_patterns(WindowRule(2, 1, 1), 10))
        self.assertEqual(len(all_patterns(BurstRule(8, 1), 10)), count_patterns(BurstRule(8, 1), 10))

    def test_sixty_beats(self):
        low, high = 1, 2
        for _ in range(59):
            low, high = high, low + high
        # Patterns without two lost beats in a row are counted by sums of the two numbers before.
        self.assertEqual(count_patterns(BurstRule(1, 1), 60), high)
        self.assertEqual(count_patterns(BurstRule(0, 1), 60), 1)
        self.assertEqual(count_patterns(WindowRule(2, 1, 1), 60), high)
        self.assertEqual(count_patterns(Ladder(60, True), 60), 2 ** 60)
        self.assertEqual(fewest_heard(WindowRule(7, 3, 3), 60), 60 - 3 * 8 - 3)

    def test_round_patterns_are_the_fewest(self):
        for burst, gap in itertools.product(range(9), range(1, 9)):
            for beats in (0, 1, 2, 7, 8, 9, 16, 17, 31, 59, 60):
                due = round_pattern(burst, gap, beats)
                check_same(self, fewest_pattern(BurstRule(burst, gap), beats), due)
                check_same(self, fewest_heard(BurstRule(burst, gap), beats), due.count(0))

    def test_a_loss_that_bars_later_ones(self):
        rule = Choice()
        for beats, due in ((1, [1]), (2, [1, 0]), (3, [0, 1, 1]), (6, [0, 1, 1, 1, 1, 1])):
            check_same(self, fewest_pattern(rule, beats), due)
            check_same(self, fewest_heard(rule, beats), due.count(0))

    def test_rules_with_many_states(self):
        numbers = Numbers(3)
        rule = Steps(500, [at for at in range(60) if numbers.below(2)])
        many = len(rule.lost_at)
        self.assertEqual(count_patterns(rule, 60), 2 ** many)
        self.assertEqual(fewest_heard(rule, 60), 60 - many)
        self.assertEqual(fewest_pattern(rule, 60), [int(at in rule.lost_at) for at in range(60)])
        self.assertEqual(len(all_patterns(rule, 10)), 2 ** len([at for at in rule.lost_at if at < 10]))

    def test_numbers(self):
        for function, most in ((count_patterns, 60), (fewest_heard, 60), (fewest_pattern, 60), (all_patterns, 10)):
            for value, error in bad_numbers(0, most):
                check_error(self, error, "beats", function, BurstRule(1, 2), value)

    def test_answers_are_new(self):
        for function in (count_patterns, fewest_heard, fewest_pattern, all_patterns):
            check_answer(self, function, {"rule": BurstRule(2, 2), "beats": 6})
            check_answer(self, function, {"rule": WindowRule(4, 3, 2), "beats": 0})


class Compared(unittest.TestCase):
    def test_the_pattern_is_the_shortest_and_least(self):
        for rule, other in itertools.product(SOME, repeat=2):
            found = separating(rule, other)
            due = next(([pattern] for beats in range(10) for pattern in kept_patterns(rule, beats)
                        if pattern not in other), None)
            if found is None or len(found) > 9:
                self.assertIsNone(due)
            else:
                self.assertEqual([found], due)

    def test_every_two_rules(self):
        for rule, other in itertools.product(RULES, repeat=2):
            pairs, events = plain_walk(rule, other)
            broken = events[-1][1] if events and events[-1][0] == "broken" else None
            check_same(self, separating(rule, other), broken)
            check_same(self, within_paper(rule, other), pairs if broken is None else None)
            if broken is None:
                self.assertIs(is_within(rule, other, pairs), True)
            else:
                self.assertTrue(broken in rule)
                self.assertEqual(other.first_break(broken), len(broken) - 1)
                self.assertIs(is_within(rule, other, pairs), False)

    def test_told_walks(self):
        check_same(self, separating(BurstRule(2, 2), BurstRule(2, 3)), [1, 0, 0, 1])
        check_same(self, separating(BurstRule(2, 2), BurstRule(1, 2)), [1, 1])
        check_same(self, within_paper(BurstRule(1, 2), BurstRule(2, 1)), [(0, 0), (1, 1), (2, 0)])
        check_same(self, within_paper(BurstRule(1, 1), WindowRule(2, 1, 1)), [(0, (0,)), (1, (1,))])
        check_same(self, within_paper(BurstRule(2, 1), BurstRule(1, 1)), None)
        check_same(self, separating(BurstRule(0, 1), BurstRule(0, 2)), None)

    def test_bounds(self):
        for rule, other in itertools.product(SOME, repeat=2):
            for bound in range(1, 14):
                due = plain_outcome(rule, other, bound)
                if due != "large":
                    check_same(self, separating(rule, other, bound=bound), due)
                    pairs = plain_walk(rule, other)[0]
                    check_same(self, within_paper(rule, other, bound=bound), pairs if due is None else None)
                    continue
                for function in (separating, within_paper, same_patterns):
                    with self.assertRaises(TooLarge) as caught:
                        function(rule, other, bound=bound)
                    check_same(self, caught.exception.bound, bound)

    def test_a_later_break_does_not_count(self):
        # The pairs are new one by one, and only the last one breaks.
        for length in (3, 10, 400):
            rule, other = Ladder(900, False), Ladder(length - 1, True)
            self.assertEqual(separating(rule, other, bound=min(400, length)), [1] * length)
            if length <= 400:
                with self.assertRaises(TooLarge) as caught:
                    separating(rule, other, bound=length - 1)
                self.assertEqual(caught.exception.bound, length - 1)
        with self.assertRaises(TooLarge) as caught:
            separating(Ladder(900, False), Ladder(400, True))
        self.assertEqual(caught.exception.bound, 400)

    def test_the_break_is_asked_ahead_of_the_new_pair(self):
        # With one pair only, the heard beat leads back and the lost beat breaks.
        check_same(self, separating(BurstRule(1, 1), BurstRule(0, 1), bound=1), [1])
        check_same(self, separating(BurstRule(2, 1), BurstRule(1, 1), bound=2), [1, 1])

    def test_four_hundred_pairs(self):
        rule, other = Ladder(399, False), Ladder(1, False)
        self.assertEqual(len(within_paper(rule, other)), 400)
        self.assertIs(is_within(rule, other, within_paper(rule, other)), True)
        self.assertIsNone(separating(rule, other))
        rule = Ladder(400, False)
        for function in (separating, within_paper, same_patterns):
            with self.assertRaises(TooLarge) as caught:
                function(rule, other)
            self.assertEqual(caught.exception.bound, 400)
        pairs = plain_walk(rule, other)[0]
        self.assertEqual(len(pairs), 401)
        for paper in (pairs, pairs[:400], pairs[:1], []):
            self.assertIs(is_within(rule, other, paper), False)

    def test_same_patterns(self):
        for rule, other in itertools.product(RULES, repeat=2):
            due = separating(rule, other) is None and separating(other, rule) is None
            self.assertIs(same_patterns(rule, other), due)
        self.assertIs(same_patterns(BurstRule(0, 1), BurstRule(0, 7)), True)
        self.assertIs(same_patterns(BurstRule(1, 1), BurstRule(2, 1)), False)

    def test_the_second_walk_is_made_only_behind_the_first(self):
        large, small = Ladder(900, True), Ladder(2, True)
        # The first walk finds a pattern with few pairs, so the second one, which is large, is not made.
        self.assertIs(same_patterns(large, small, bound=5), False)
        self.assertIs(same_patterns(BurstRule(2, 1), BurstRule(1, 8), bound=3), False)
        with self.assertRaises(TooLarge) as caught:
            same_patterns(BurstRule(1, 8), BurstRule(2, 1), bound=3)
        self.assertEqual(caught.exception.bound, 3)

    def test_window_rules_with_few_at_most_1_are_burst_rules(self):
        for window in range(2, 8):
            for burst in range(window):
                rule = WindowRule(window, burst, min(1, burst))
                self.assertIs(same_patterns(rule, BurstRule(burst, window - 1)), True)
                if burst:
                    self.assertIs(same_patterns(rule, BurstRule(burst, window)), False)
        self.assertIs(same_patterns(WindowRule(4, 3, 2), BurstRule(3, 3)), False)

    def test_bounds_are_numbers(self):
        for function in (separating, within_paper, same_patterns):
            for value, _ in bad_numbers(1, 400):
                check_error(self, BadNumber, "bound",
                            lambda bound: function(BurstRule(1, 1), BurstRule(1, 1), bound=bound), value)

    def test_answers_are_new(self):
        good = {"rule": BurstRule(1, 2), "other": BurstRule(2, 1)}
        for function in (separating, within_paper, same_patterns):
            check_answer(self, function, good)
            check_answer(self, function, {"rule": BurstRule(2, 1), "other": BurstRule(1, 2)}, {"bound": 9})


class Papers(unittest.TestCase):
    def test_any_order_behind_the_first(self):
        rule, other = BurstRule(2, 2), BurstRule(3, 1)
        pairs = within_paper(rule, other)
        right = [pairs[:1] + list(rest) for rest in itertools.permutations(pairs[1:])]
        wrong = [list(reversed(pairs)), pairs[1:] + pairs[:1], pairs[:-1], pairs + pairs[-1:], pairs + [(9, 9)],
                 pairs[:-1] + pairs[:1], pairs[:-1] + [(0, 1)], tuple(pairs), [list(pair) for pair in pairs],
                 [pair + (0,) for pair in pairs], [pair[:1] for pair in pairs], [pairs], pairs[:-1] + [None],
                 [pair[::-1] for pair in pairs], pairs[:-1] + [[]], pairs[:1] * len(pairs), []]
        check_papers(self, is_within, (rule, other), right, wrong)

    def test_kinds_of_states(self):
        rule, other = WindowRule(2, 1, 1), BurstRule(1, 1)
        right = [((0,), 0), ((1,), 1)]
        self.assertTrue(alike(within_paper(rule, other), right))
        wrong = [[((0,), False), ((1,), 1)], [((0,), 0), ((True,), 1)], [([0], 0), ([1], 1)],
                 [((0,), 0), ((1,), True)], [((False,), 0), ((1,), 1)], [((0,), 0), ((1,), "1")], [(0, 0), (1, 1)],
                 [((0, 0), 0), ((0, 1), 1)]]
        check_papers(self, is_within, (rule, other), [right], wrong)

    def test_no_paper_where_a_pattern_breaks(self):
        rule, other = BurstRule(2, 2), BurstRule(1, 2)
        check_papers(self, is_within, (rule, other), [], [plain_walk(rule, other)[0], [(0, 0), (1, 1), (2, 2)]])

    def test_one_pair(self):
        rule = BurstRule(0, 4)
        check_papers(self, is_within, (rule, BurstRule(3, 3)), [[(0, 0)]], [[(0, 0), (0, 0)], [(0, 1)], [(0,)]])


if __name__ == "__main__":
    unittest.main()
