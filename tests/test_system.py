import unittest

from mendsontime.errors import BadElement, BadNumber, BadShape, Clash
from mendsontime.field import Field
from mendsontime.solve import System, rank_of, reduced

from helping import (
    SIZES, Numbers, all_lists, bad_elements, bad_numbers, bad_rows, check_answer, check_error, plain_sum, span,
)


def plain_value(field, width, told, goal):
    """The value that follows from the equations, by all unknown rows; None if there are several."""
    found = {plain_sum(field, goal, unknown) for unknown in all_lists(field.size, width)
             if all(plain_sum(field, row, unknown) == value for row, value in told)}
    return found.pop() if len(found) == 1 else None


class Learning(unittest.TestCase):
    def test_true_false_and_clash(self):
        system = System(Field(3), 2)
        self.assertIs(system.learn([1, 2], 2), True)
        self.assertIs(system.learn([2, 1], 1), False)
        with self.assertRaises(Clash) as caught:
            system.learn([2, 1], 2)
        self.assertEqual(caught.exception.moment, 2)
        self.assertIs(system.learn([0, 0], 0), False)
        with self.assertRaises(Clash) as caught:
            system.learn([0, 0], 1)
        self.assertEqual(caught.exception.moment, 3)
        self.assertIs(system.learn([0, 2], 1), True)
        with self.assertRaises(Clash) as caught:
            system.learn([1, 1], 1)
        self.assertEqual(caught.exception.moment, 4)
        self.assertEqual(system.facts(), [([1, 0], 1), ([0, 1], 2)])

    def test_the_moment_counts_only_calls_that_returned(self):
        system = System(Field(2), 1)
        for _ in range(3):
            with self.assertRaises(Clash) as caught:
                system.learn([0], 1)
            self.assertEqual(caught.exception.moment, 0)
        for wrong in ([], [2], None):
            with self.assertRaises((BadShape, BadElement)):
                system.learn(wrong, 0)
        system.learn([1], 1)
        for _ in range(2):
            with self.assertRaises(Clash) as caught:
                system.learn([1], 0)
            self.assertEqual(caught.exception.moment, 1)

    def test_a_clash_is_not_kept(self):
        system = System(Field(5), 3)
        system.learn([1, 2, 3], 4)
        before = system.facts()
        with self.assertRaises(Clash):
            system.learn([2, 4, 1], 0)
        self.assertEqual(system.facts(), before)
        self.assertEqual(system.rank, 1)
        self.assertEqual(system.value_of([2, 4, 1]), 3)

    def test_width_0(self):
        system = System(Field(4), 0)
        self.assertEqual(system.rank, 0)
        self.assertEqual(system.facts(), [])
        self.assertEqual(system.value_of([]), 0)
        self.assertTrue([] in system)
        self.assertIs(system.learn([], 0), False)
        with self.assertRaises(Clash) as caught:
            system.learn([], 3)
        self.assertEqual(caught.exception.moment, 1)
        self.assertEqual(system.rank, 0)

    def test_an_empty_system(self):
        system = System(Field(7), 2)
        self.assertEqual(system.value_of([0, 0]), 0)
        self.assertIsNone(system.value_of([0, 1]))
        self.assertTrue([0, 0] in system)
        self.assertFalse([3, 0] in system)
        self.assertEqual(system.rank, 0)

    def test_all_short_runs(self):
        field = Field(2)
        equations = [(row, value) for row in all_lists(2, 2) for value in (0, 1)]
        for first in equations:
            for second in equations:
                for third in equations:
                    self.check_run(field, 2, (first, second, third))

    def test_some_runs_over_every_field(self):
        for size in (3, 4, 5):
            numbers = Numbers(size)
            for _ in range(12):
                self.check_run(Field(size), 3, [(numbers.row(size, 3), numbers.below(size)) for _ in range(5)])

    def check_run(self, field, width, equations):
        system = System(field, width)
        told, answered = [], 0
        for row, value in equations:
            due = plain_value(field, width, told, row)
            known = tuple(row) in span(field, width, [other for other, _ in told])
            if known and due != value:
                with self.assertRaises(Clash) as caught:
                    system.learn(row, value)
                self.assertEqual(caught.exception.moment, answered)
                continue
            self.assertIs(system.learn(row, value), not known)
            answered += 1
            told.append((row, value))
            rows = [other for other, _ in told]
            self.assertEqual(system.rank, rank_of(field, width, rows))
            self.assertEqual([other for other, _ in system.facts()], reduced(field, width, rows))
            for other, follows in system.facts():
                self.assertEqual(plain_value(field, width, told, other), follows)
        if told:
            reach = span(field, width, [other for other, _ in told])
            for goal in all_lists(field.size, width):
                self.assertIs(goal in system, tuple(goal) in reach)
                follows = plain_value(field, width, told, goal) if tuple(goal) in reach else None
                self.assertEqual(system.value_of(goal), follows)

    def test_every_field(self):
        for size in SIZES:
            field, numbers = Field(size), Numbers(size + 1)
            unknown = numbers.row(size, 6)
            system = System(field=field, width=6)
            while system.rank < 6:
                row = numbers.row(size, 6)
                before = system.rank
                new = system.learn(row=row, value=plain_sum(field, row, unknown))
                self.assertEqual(system.rank, before + new)
                self.assertEqual(system.value_of(goal=row), plain_sum(field, row, unknown))
            self.assertEqual([value for _, value in system.facts()], unknown)
            self.assertEqual([row for row, _ in system.facts()], [[int(i == j) for j in range(6)] for i in range(6)])

    def test_width_200(self):
        field, numbers = Field(16), Numbers(3)
        system = System(field, 200)
        unknown = numbers.row(16, 200)
        for _ in range(60):
            row = numbers.row(16, 200)
            self.assertIs(system.learn(row, plain_sum(field, row, unknown)), True)
            self.assertEqual(system.value_of(row), plain_sum(field, row, unknown))
        for row, value in system.facts():
            self.assertEqual(plain_sum(field, row, unknown), value)


class Checks(unittest.TestCase):
    def test_width(self):
        for value, error in bad_numbers(0, 200):
            check_error(self, error, "width", System, Field(2), value)
        check_error(self, BadNumber, "width", System, Field(2), 201)
        System(Field(2), 200)

    def test_learn(self):
        system = System(Field(3), 2)
        system.learn([1, 0], 2)
        for value, error in bad_rows(3, [1, 2]):
            check_error(self, error, "row", system.learn, value, 0)
            check_error(self, error, "row", system.learn, value, 3)
        for value, error in bad_elements(3):
            check_error(self, error, "value", system.learn, [1, 2], value)
            # A wrong value goes ahead of a clash.
            check_error(self, error, "value", system.learn, [0, 0], value)
        self.assertEqual(system.facts(), [([1, 0], 2)])

    def test_goals(self):
        system = System(Field(3), 2)
        system.learn([1, 0], 2)
        for value, error in bad_rows(3, [1, 2]):
            check_error(self, error, "goal", system.value_of, value)
            check_error(self, error, "goal", system.__contains__, value)
        self.assertIs(system.__contains__([2, 0]), True)
        self.assertIs(system.__contains__([2, 1]), False)

    def test_rank_is_not_assigned(self):
        with self.assertRaises(AttributeError):
            System(Field(3), 2).rank = 1


class Copies(unittest.TestCase):
    def test_rows_are_not_kept(self):
        system = System(Field(3), 2)
        row, goal = [1, 2], [2, 1]
        system.learn(row, 2)
        row[0] = 0
        row.append(1)
        self.assertEqual(system.facts(), [([1, 2], 2)])
        self.assertEqual(check_answer(self, system.value_of, {"goal": goal}), 1)
        self.assertTrue(goal in system)
        self.assertEqual(goal, [2, 1])

    def test_facts_are_new(self):
        system = System(Field(3), 2)
        system.learn([1, 0], 2)
        system.learn([0, 2], 2)
        self.assertEqual(check_answer(self, system.facts, {}), [([1, 0], 2), ([0, 1], 1)])
        self.assertEqual(system.value_of([1, 1]), 0)

    def test_two_systems_do_not_share(self):
        one, other = System(Field(2), 1), System(Field(2), 1)
        one.learn([1], 1)
        self.assertEqual(other.rank, 0)
        self.assertIs(other.learn([1], 0), True)
        self.assertEqual(one.value_of([1]), 1)


if __name__ == "__main__":
    unittest.main()
