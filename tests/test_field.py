import unittest

from mendsontime.errors import BadElement, BadNumber, BadShape, NoInverse
from mendsontime.field import SIZES, Field, generator

from helping import NO_NUMBERS, bad_elements, bad_numbers, bad_rows, check_answer, check_call, check_error

PRIME_AND_POWER = {2: (2, 1), 3: (3, 1), 4: (2, 2), 5: (5, 1), 7: (7, 1), 8: (2, 3), 9: (3, 2), 11: (11, 1),
                   13: (13, 1), 16: (2, 4)}
TOLD = {2: [0, 1], 3: [0, 1], 4: [1, 1, 1], 5: [0, 1], 7: [0, 1], 8: [1, 1, 0, 1], 9: [1, 0, 1], 11: [0, 1],
        13: [0, 1], 16: [1, 1, 0, 0, 1]}
GENERATORS = {2: 1, 3: 2, 4: 2, 5: 2, 7: 3, 8: 2, 9: 4, 11: 2, 13: 2, 16: 2}
ORDERS = {
    2: [1], 3: [1, 2], 4: [1, 3, 3], 5: [1, 4, 4, 2], 7: [1, 3, 6, 3, 6, 2], 8: [1, 7, 7, 7, 7, 7, 7],
    9: [1, 2, 4, 8, 8, 4, 8, 8], 11: [1, 10, 5, 5, 5, 10, 10, 10, 5, 2],
    13: [1, 12, 3, 6, 4, 12, 12, 4, 3, 6, 12, 2],
    16: [1, 15, 15, 15, 15, 3, 3, 5, 15, 5, 15, 5, 15, 15, 5],
}


def digits(size, a):
    prime, power = PRIME_AND_POWER[size]
    return [a // prime ** at % prime for at in range(power)]


def number(size, parts):
    prime, _ = PRIME_AND_POWER[size]
    return sum(part * prime ** at for at, part in enumerate(parts))


def plus(size, a, b):
    prime, _ = PRIME_AND_POWER[size]
    return number(size, [(x + y) % prime for x, y in zip(digits(size, a), digits(size, b))])


def minus(size, a, b):
    prime, _ = PRIME_AND_POWER[size]
    return number(size, [(x - y) % prime for x, y in zip(digits(size, a), digits(size, b))])


def times_x(size, a):
    """The product with `x`: digits go up by one, and the highest one comes back by the told polynomial."""
    prime, _ = PRIME_AND_POWER[size]
    *low, high = digits(size, a)
    return number(size, [(part - high * told) % prime for part, told in zip([0] + low, TOLD[size])])


def times(size, a, b):
    prime, power = PRIME_AND_POWER[size]
    if power == 1:
        return a * b % size
    total = 0
    for digit in digits(size, b):
        for _ in range(digit):
            total = plus(size, total, a)
        a = times_x(size, a)
    return total


class Making(unittest.TestCase):
    def test_sizes(self):
        self.assertEqual(SIZES, (2, 3, 4, 5, 7, 8, 9, 11, 13, 16))
        self.assertIs(type(SIZES), tuple)
        for size in SIZES:
            field = Field(size)
            self.assertEqual((field.prime, field.power), PRIME_AND_POWER[size])
            self.assertEqual(field.size, size)
            self.assertEqual(field.prime ** field.power, size)
            self.assertEqual(Field(size=size).size, size)

    def test_wrong_sizes(self):
        others = [size for size in range(-20, 40) if size not in SIZES]
        for size in list(NO_NUMBERS) + others + [2.0, 16.0, 10 ** 30, "2", [2], (2,)]:
            check_error(self, BadNumber, "size", Field, size)

    def test_properties_are_not_assigned(self):
        field = Field(4)
        for name in ("size", "prime", "power"):
            with self.assertRaises(AttributeError):
                setattr(field, name, 3)


class Arithmetic(unittest.TestCase):
    def test_sums_differences_and_products(self):
        for size in SIZES:
            field = Field(size)
            for a in range(size):
                self.assertEqual(field.negated(a), minus(size, 0, a))
                for b in range(size):
                    self.assertEqual(field.plus(a, b), plus(size, a, b))
                    self.assertEqual(field.minus(a, b), minus(size, a, b))
                    self.assertEqual(field.times(a, b), times(size, a, b))

    def test_told_values(self):
        self.assertEqual(Field(8).times(5, 6), 3)
        self.assertEqual([[Field(4).times(a, b) for b in range(4)] for a in range(4)],
                         [[0, 0, 0, 0], [0, 1, 2, 3], [0, 2, 3, 1], [0, 3, 1, 2]])
        self.assertEqual([[Field(4).plus(a, b) for b in range(4)] for a in range(4)],
                         [[0, 1, 2, 3], [1, 0, 3, 2], [2, 3, 0, 1], [3, 2, 1, 0]])
        self.assertEqual(Field(8).times(2, 4), 3)
        self.assertEqual(Field(9).times(3, 3), 2)
        self.assertEqual(Field(9).times(4, 4), 6)
        self.assertEqual(Field(9).plus(5, 4), 6)
        self.assertEqual(Field(9).negated(5), 7)
        self.assertEqual(Field(16).times(2, 8), 3)
        self.assertEqual(Field(13).times(12, 12), 1)
        self.assertEqual(Field(7).minus(2, 5), 4)
        self.assertEqual(Field(3).over(1, 2), 2)

    def test_inverses_and_quotients(self):
        for size in SIZES:
            field = Field(size)
            for b in range(1, size):
                self.assertEqual(times(size, b, field.inverse(b)), 1)
                for a in range(size):
                    self.assertEqual(times(size, field.over(a, b), b), a)

    def test_no_inverse_of_0(self):
        for size in SIZES:
            field = Field(size)
            check_error(self, NoInverse, None, field.inverse, 0)
            check_error(self, NoInverse, None, field.order_of, 0)
            for a in range(size):
                check_error(self, NoInverse, None, field.over, a, 0)
            for exponent in (-1, -2, -300):
                check_error(self, NoInverse, None, field.raised, 0, exponent)

    def test_powers(self):
        for size in SIZES:
            field = Field(size)
            for a in range(size):
                self.assertEqual(field.raised(a, 0), 1)
                reached = 1
                for exponent in range(1, 40):
                    reached = times(size, reached, a)
                    self.assertEqual(field.raised(a, exponent), reached)
                    if a:
                        self.assertEqual(times(size, field.raised(a, -exponent), reached), 1)
                self.assertEqual(field.raised(a, 300), field.raised(a, 300 % (size - 1)) if a else 0)
                if a:
                    self.assertEqual(field.raised(a, -300), field.raised(field.inverse(a), 300))
        self.assertEqual(Field(5).raised(0, 0), 1)
        self.assertEqual(Field(5).raised(0, 300), 0)
        self.assertEqual(Field(7).raised(3, -2), 4)

    def test_orders_and_generators(self):
        for size in SIZES:
            field = Field(size)
            self.assertEqual([field.order_of(a) for a in range(1, size)], ORDERS[size])
            self.assertEqual(generator(field), GENERATORS[size])
            self.assertEqual(generator(field=field), GENERATORS[size])

    def test_digits(self):
        self.assertEqual(Field(8).digits(6), [0, 1, 1])
        for size in SIZES:
            field = Field(size)
            for a in range(size):
                spelled = check_answer(self, field.digits, {"a": a})
                self.assertEqual(spelled, digits(size, a))
                self.assertEqual(check_answer(self, field.from_digits, {"digits": spelled}), a)

    def test_told_parts(self):
        for size in SIZES:
            self.assertEqual(check_answer(self, Field(size).told_parts, {}), TOLD[size])


class Checks(unittest.TestCase):
    def test_two_elements(self):
        for size in (2, 9, 16):
            field = Field(size)
            for method in (field.plus, field.minus, field.times, field.over):
                check_call(self, method, {"a": size - 1, "b": 1}, {"a": bad_elements(size), "b": bad_elements(size)})

    def test_one_element(self):
        for size in (2, 9, 16):
            field = Field(size)
            for method in (field.negated, field.inverse, field.order_of, field.digits):
                check_call(self, method, {"a": 1}, {"a": bad_elements(size)})

    def test_raised(self):
        for exponent in (-300, -1, 0, 1, 300):
            check_call(self, Field(9).raised, {"a": 5, "exponent": exponent},
                       {"a": bad_elements(9), "exponent": bad_numbers(-300, 300)})

    def test_errors_of_arguments_go_ahead_of_no_inverse(self):
        field = Field(4)
        check_error(self, BadElement, "a", field.over, 4, 0)
        check_error(self, BadElement, "a", field.over, True, 0)
        check_error(self, BadNumber, "exponent", field.raised, 0, -301)
        check_error(self, BadNumber, "exponent", field.raised, 0, None)

    def test_from_digits(self):
        for size, spelled in ((2, [1]), (9, [2, 1]), (8, [1, 0, 1]), (16, [1, 0, 1, 1]), (13, [12])):
            field = Field(size)
            check_call(self, field.from_digits, {"digits": spelled}, {"digits": bad_rows(field.prime, spelled)})
        check_error(self, BadShape, "digits", Field(9).from_digits, [])
        check_error(self, BadElement, "digits", Field(9).from_digits, [3, 0])


class AsAContainer(unittest.TestCase):
    def test_in(self):
        for size in SIZES:
            field = Field(size)
            self.assertEqual([value for value in range(-3, 30) if value in field], list(range(size)))
            for value in NO_NUMBERS:
                self.assertFalse(value in field)
            self.assertIs(field.__contains__(1), True)
            self.assertIs(field.__contains__(size), False)
            self.assertNotIn(10 ** 40, field)

    def test_iteration(self):
        for size in SIZES:
            field = Field(size)
            self.assertEqual(list(field), list(range(size)))
            self.assertEqual([(a, b) for a in field for b in field],
                             [(a, b) for a in range(size) for b in range(size)])

    def test_equal(self):
        for size in SIZES:
            for other in SIZES:
                self.assertIs(Field(size) == Field(other), size == other)
                self.assertIs(Field(size) != Field(other), size != other)
            for other in (None, size, str(size), [size], object(), Field):
                self.assertFalse(Field(size) == other)
                self.assertTrue(Field(size) != other)


if __name__ == "__main__":
    unittest.main()
