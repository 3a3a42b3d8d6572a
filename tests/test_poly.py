import itertools
import operator
import unittest

from mendsontime.errors import BadElement, BadNumber, BadShape, NoInverse
from mendsontime.field import Field
from mendsontime.poly import Poly, common_divisor, is_irreducible, monic, poly_through, told_poly

from helping import (
    NO_LISTS, NO_NUMBERS, SIZES, Numbers, all_lists, bad_elements, bad_entries, bad_rows, check_answer, check_call,
    check_error,
)

DIVISIONS = ("//", "%")
OPERATORS = {"+": operator.add, "-": operator.sub, "*": operator.mul, "//": operator.floordiv, "%": operator.mod}


def cut(parts):
    while parts and parts[-1] == 0:
        parts = parts[:-1]
    return parts


def convolved(field, a, b):
    """The product, part by part, by the field's own methods."""
    found = []
    for at in range(len(a) + len(b)):
        total = 0
        for i, x in enumerate(a):
            if 0 <= at - i < len(b):
                total = field.plus(total, field.times(x, b[at - i]))
        found.append(total)
    return cut(found)


def plain_value(field, parts, x):
    total = 0
    for exponent, part in enumerate(parts):
        total = field.plus(total, field.times(part, field.raised(x, exponent)))
    return total


def polys(size, most):
    """All polynomials with at most so many parts."""
    field = Field(size)
    return [Poly(field, parts) for parts in all_lists(size, most)]


class Making(unittest.TestCase):
    def test_parts_and_degree(self):
        for size in SIZES:
            field = Field(size)
            for given, parts in (([], []), ([0], []), ([0] * 40, []), ([1], [1]), ([0, 1], [0, 1]), ([1, 0], [1]),
                                 ([0, 1, 0, 0], [0, 1]), ([size - 1] * 40, [size - 1] * 40)):
                kept = list(given)
                poly = Poly(field, given)
                self.assertEqual(given, kept)
                self.assertEqual(poly.parts, parts)
                self.assertEqual(poly.degree, len(parts) - 1)
                self.assertEqual(poly.field, field)
                self.assertEqual(Poly(field=field, parts=given).parts, parts)

    def test_checks(self):
        field = Field(3)
        for value, error in bad_rows(3, [1, 0, 2], most=40):
            check_error(self, error, "parts", Poly, field, value)
        check_error(self, BadShape, "parts", Poly, field, [0] * 41)
        check_error(self, BadShape, "parts", Poly, field, [3] * 41)
        check_error(self, BadElement, "parts", Poly, field, [0] * 39 + [3])

    def test_keeps_nothing_and_gives_new_lists(self):
        given = [1, 2]
        poly = Poly(Field(3), given)
        given.append(1)
        given[0] = 0
        self.assertEqual(poly.parts, [1, 2])
        poly.parts.append(1)
        self.assertEqual(poly.parts, [1, 2])
        self.assertIsNot(poly.parts, poly.parts)

    def test_properties_are_not_assigned(self):
        poly = Poly(Field(3), [1])
        for name in ("field", "degree", "parts"):
            with self.assertRaises(AttributeError):
                setattr(poly, name, 0)


class Operators(unittest.TestCase):
    def check_pair(self, a, b):
        field = a.field
        many = max(len(a.parts), len(b.parts))
        left, right = a.parts + [0] * (many - len(a.parts)), b.parts + [0] * (many - len(b.parts))
        self.assertEqual((a + b).parts, cut([field.plus(x, y) for x, y in zip(left, right)]))
        self.assertEqual((a - b).parts, cut([field.minus(x, y) for x, y in zip(left, right)]))
        self.assertEqual((a * b).parts, convolved(field, a.parts, b.parts))
        if b.degree < 0:
            for sign in DIVISIONS:
                check_error(self, NoInverse, None, OPERATORS[sign], a, b)
        else:
            quotient, rest = a // b, a % b
            self.assertTrue(rest.degree < b.degree)
            whole = convolved(field, quotient.parts, b.parts)
            self.assertEqual(Poly(field, whole) + rest, a)
            self.assertEqual(quotient.degree, max(a.degree - b.degree, -1))

    def test_all_small_pairs(self):
        for size, most in ((2, 4), (3, 3), (4, 2), (9, 1)):
            found = polys(size, most)
            for a, b in itertools.product(found, found):
                self.check_pair(a, b)

    def test_some_pairs_over_every_field(self):
        for size in SIZES:
            numbers = Numbers(size)
            field = Field(size)
            for _ in range(60):
                a = Poly(field, numbers.row(size, numbers.below(9)))
                b = Poly(field, numbers.row(size, numbers.below(6)))
                self.check_pair(a, b)

    def test_told_values(self):
        field = Field(3)
        a, b = Poly(field, [1, 2, 0, 2]), Poly(field, [2, 2, 0])
        self.assertEqual((a + b).parts, [0, 1, 0, 2])
        self.assertEqual((a - b).parts, [2, 0, 0, 2])
        self.assertEqual((a - a).parts, [])
        self.assertEqual((a * b).parts, [2, 0, 1, 1, 1])
        self.assertEqual((a // b).parts, [2, 2, 1])
        self.assertEqual((a % b).parts, [])
        self.assertEqual((-a).parts, [2, 1, 0, 1])
        self.assertEqual((Poly(field, [1, 1]) + Poly(field, [0, 2])).parts, [1])

    def test_negative(self):
        for size in SIZES:
            field = Field(size)
            for parts in ([], [1], list(range(size)), [0, size - 1]):
                poly = Poly(field, parts)
                self.assertEqual((-poly).parts, cut([field.negated(part) for part in parts]))
                self.assertEqual((-poly + poly).parts, [])

    def test_answers_are_polys_over_the_field(self):
        a, b = Poly(Field(4), [1, 2, 3]), Poly(Field(4), [3, 1])
        for act in OPERATORS.values():
            self.assertIsInstance(act(a, b), Poly)
            self.assertEqual(act(a, b).field, Field(4))
        self.assertIsInstance(-a, Poly)
        self.assertEqual((-a).field, Field(4))
        self.assertEqual((a.parts, b.parts), ([1, 2, 3], [3, 1]))

    def test_the_zero_polynomial(self):
        field = Field(5)
        zero, a = Poly(field, [0, 0]), Poly(field, [1, 4])
        self.assertEqual((zero + a).parts, [1, 4])
        self.assertEqual((a - zero).parts, [1, 4])
        self.assertEqual((zero - a).parts, [4, 1])
        self.assertEqual((zero * a).parts, [])
        self.assertEqual((a * zero).parts, [])
        self.assertEqual((zero // a).parts, [])
        self.assertEqual((zero % a).parts, [])
        self.assertEqual((-zero).degree, -1)
        self.assertEqual((zero * zero).degree, -1)

    def test_results_of_more_than_40_parts(self):
        field = Field(7)
        long_one = Poly(field, [3] * 40)
        square = long_one * long_one
        self.assertEqual(square.degree, 78)
        self.assertEqual((square * square).degree, 156)
        self.assertEqual((square * square // square).parts, square.parts)
        self.assertEqual((square % long_one).parts, [])
        self.assertEqual((-square + square).degree, -1)
        self.assertEqual((square + long_one).parts[40:], square.parts[40:])
        self.assertEqual(square, long_one * long_one)
        for x in range(7):
            self.assertEqual(square(x), field.times(long_one(x), long_one(x)))
        self.assertEqual(monic(square)(2), field.over(square(2), square.parts[-1]))
        self.assertEqual(common_divisor(square, square).degree, 78)

    def test_wrong_right_operands(self):
        a = Poly(Field(4), [1, 2])
        wrong = list(NO_NUMBERS) + [2, [1, 2], Field(4), Poly(Field(2), [1]), Poly(Field(16), [1]), Poly(Field(2), [])]
        for act in OPERATORS.values():
            for other in wrong:
                check_error(self, BadShape, "other", act, a, other)

    def test_equal(self):
        a = Poly(Field(4), [1, 2, 0])
        self.assertIs(a == Poly(Field(4), [1, 2]), True)
        self.assertIs(a != Poly(Field(4), [1, 2]), False)
        for other in (Poly(Field(8), [1, 2]), Poly(Field(4), [1, 3]), Poly(Field(4), [1, 2, 1]), Poly(Field(4), []),
                      [1, 2], None, 1, "1 2", Field(4)):
            self.assertIs(a == other, False)
            self.assertIs(a != other, True)
        self.assertTrue(Poly(Field(2), [0]) == Poly(Field(2), []))
        self.assertFalse(Poly(Field(2), []) == Poly(Field(3), []))

    def test_values(self):
        for size in SIZES:
            field = Field(size)
            numbers = Numbers(size)
            for length in (0, 1, 2, 5, 17):
                parts = numbers.row(size, length)
                poly = Poly(field, parts)
                for x in range(size):
                    self.assertEqual(check_answer(self, poly, {"x": x}), plain_value(field, parts, x))
            check_call(self, Poly(field, [1, 1]), {"x": 0}, {"x": bad_elements(size)})
            check_call(self, Poly(field, []), {"x": 1}, {"x": bad_elements(size)})


class Functions(unittest.TestCase):
    def test_monic(self):
        for size in SIZES:
            field = Field(size)
            for high in range(1, size):
                parts = [1, 0, size - 1, high]
                poly = monic(Poly(field, parts + [0, 0]))
                self.assertIsInstance(poly, Poly)
                self.assertEqual(poly.parts, [field.over(part, high) for part in parts])
                self.assertEqual(poly.parts[-1], 1)
            self.assertEqual(monic(poly=Poly(field, [0])), Poly(field, []))

    def test_common_divisor_of_all_small_pairs(self):
        for size, most in ((2, 4), (3, 3), (4, 2)):
            found = polys(size, most)
            monics = [poly for poly in found if poly.degree >= 0 and poly.parts[-1] == 1]
            for a, b in itertools.product(found, found):
                divisor = common_divisor(a, b)
                if a.degree < 0 and b.degree < 0:
                    self.assertEqual(divisor.parts, [])
                    continue
                both = [poly for poly in monics if (a % poly).degree < 0 and (b % poly).degree < 0]
                best = max(poly.degree for poly in both)
                self.assertEqual([divisor], [poly for poly in both if poly.degree == best])

    def test_common_divisor_over_every_field(self):
        for size in SIZES:
            field = Field(size)
            shared, a, b = Poly(field, [1, size - 1]), Poly(field, [1, 1, 1]), Poly(field, [0, 1])
            self.assertEqual(common_divisor(a=a * shared, b=b * shared) % monic(shared), Poly(field, []))
            self.assertEqual(common_divisor(shared, Poly(field, [])), monic(shared))
            self.assertEqual(common_divisor(Poly(field, []), shared), monic(shared))
            self.assertEqual(common_divisor(b, Poly(field, [size - 1])).parts, [1])
            self.assertIsInstance(common_divisor(a, b), Poly)

    def test_common_divisor_of_unlike_fields(self):
        for other in (Poly(Field(2), [1, 1]), Poly(Field(2), []), Poly(Field(16), [1])):
            check_error(self, BadShape, "b", common_divisor, Poly(Field(4), [1, 1]), other)
            check_error(self, BadShape, "b", common_divisor, Poly(Field(4), []), other)

    def test_poly_through(self):
        for size in SIZES:
            field = Field(size)
            numbers = Numbers(size)
            for many in range(min(size, 16) + 1):
                places = sorted(range(size), key=lambda _: numbers.below(1000))[:many]
                points = [(x, numbers.below(size)) for x in places]
                kept = list(points)
                poly = poly_through(field, points)
                self.assertEqual(points, kept)
                self.assertIsInstance(poly, Poly)
                self.assertEqual(poly.field, field)
                self.assertTrue(poly.degree < many or many == 0 and poly.degree == -1)
                self.assertEqual([poly(x) for x, _ in points], [y for _, y in points])
                self.assertEqual(poly_through(field=field, points=points), poly)
        self.assertEqual(poly_through(Field(5), [(1, 2), (3, 2), (0, 2)]).parts, [2])
        self.assertEqual(poly_through(Field(7), [(2, 0), (3, 0)]).parts, [])
        self.assertEqual(poly_through(Field(4), []).parts, [])

    def test_poly_through_wrong_points(self):
        field = Field(3)
        for wrong in NO_LISTS + (((0, 1), (1, 1)), [[0, 1]], [(0, 1, 1)], [(0,)], [()], [0], [None], ["01"],
                                 [(0, 1)] * 17, [(0, 3)] * 17, [(0, 1), (3, 3), [1, 1]], [(True, 1), (0,)]):
            check_error(self, BadShape, "points", poly_through, field, wrong)
        for wrong in bad_entries(3):
            for points in ([(wrong, 1)], [(1, wrong)], [(0, 0), (1, 1), (2, wrong)], [(0, 0), (0, 0), (1, wrong)],
                           [(wrong, 0), (wrong, 0)]):
                check_error(self, BadElement, "points", poly_through, field, points)
        for wrong in ([(0, 1), (0, 2)], [(0, 1), (0, 1)], [(0, 0), (1, 1), (2, 2), (1, 1)], [(0, 1)] * 16):
            check_error(self, BadShape, "points", poly_through, field, wrong)

    def test_is_irreducible(self):
        for size, most in ((2, 5), (3, 4), (4, 3)):
            found = [poly for poly in polys(size, most) if poly.degree >= 1]
            products = [a * b for a, b in itertools.product(found, found) if a.degree + b.degree < most]
            for poly in found:
                self.assertIs(is_irreducible(poly), poly not in products)
        for size in SIZES:
            field = Field(size)
            self.assertIs(is_irreducible(Poly(field, [])), False)
            self.assertIs(is_irreducible(Poly(field, [1])), False)
            self.assertIs(is_irreducible(Poly(field, [size - 1, 0, 0])), False)
            self.assertIs(is_irreducible(poly=Poly(field, [size - 1, size - 1])), True)

    def test_number_of_irreducible_squares(self):
        for size in SIZES:
            field = Field(size)
            found = [low for low in all_lists(size, 2) if is_irreducible(Poly(field, low + [1]))]
            self.assertEqual(len(found), (size * size - size) // 2)

    def test_degree_4(self):
        # Neither has a root; the first one is the square of x**2 + x + 1.
        self.assertIs(is_irreducible(Poly(Field(2), [1, 0, 1, 0, 1])), False)
        self.assertIs(is_irreducible(Poly(Field(2), [1, 1, 1, 1, 1])), True)
        self.assertIs(is_irreducible(Poly(Field(16), [1, 1, 0, 0, 1])), False)
        self.assertIs(is_irreducible(Poly(Field(13), [2, 0, 0, 0, 1])), True)

    def test_too_high_a_degree(self):
        for parts in ([0, 0, 0, 0, 0, 1], [1] * 40):
            check_error(self, BadShape, "poly", is_irreducible, Poly(Field(2), parts))
        self.assertIs(is_irreducible(Poly(Field(2), [1, 1, 0, 0, 1] + [0] * 30)), True)

    def test_told_poly(self):
        told = {4: (2, [1, 1, 1]), 8: (2, [1, 1, 0, 1]), 9: (3, [1, 0, 1]), 16: (2, [1, 1, 0, 0, 1])}
        for size in SIZES:
            poly = told_poly(size)
            prime, parts = told.get(size, (size, [0, 1]))
            self.assertIsInstance(poly, Poly)
            self.assertEqual(poly.field, Field(prime))
            self.assertEqual(poly.parts, parts)
            self.assertEqual(told_poly(size=size), poly)
            self.assertTrue(is_irreducible(poly))
        for size in NO_NUMBERS + (0, 1, 6, 10, 12, 14, 15, 17, -2):
            check_error(self, BadNumber, "size", told_poly, size)


if __name__ == "__main__":
    unittest.main()
