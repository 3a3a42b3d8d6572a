"""Polynomials over a field."""

from mendsontime.errors import BadShape, NoInverse, check_element, check_entries, check_row_up_to, check_tuples
from mendsontime.field import Field
from mendsontime.linear import add_rows, all_rows, scale_row

MOST_PARTS = 40
MOST_POINTS = 16
MOST_DEGREE = 4


class Poly:
    """The polynomial with these parts, lowest first. It never changes."""

    def __init__(self, field, parts):
        self._field = field
        self._parts = trimmed(check_row_up_to(parts, field.size, MOST_PARTS, "parts"))

    @property
    def field(self):
        """The field of the parts."""
        return self._field

    @property
    def degree(self):
        """The number of parts minus 1."""
        return len(self._parts) - 1

    @property
    def parts(self):
        """The list of the parts, without zeros at the high end."""
        return list(self._parts)

    def __add__(self, other):
        check_other(self, other)
        return made_poly(self._field, parts_plus(self._field, self._parts, other._parts))

    def __sub__(self, other):
        check_other(self, other)
        less = parts_negated(self._field, other._parts)
        return made_poly(self._field, parts_plus(self._field, self._parts, less))

    def __mul__(self, other):
        check_other(self, other)
        return made_poly(self._field, parts_times(self._field, self._parts, other._parts))

    def __floordiv__(self, other):
        check_divisor(self, other)
        return made_poly(self._field, parts_divided(self._field, self._parts, other._parts)[0])

    def __mod__(self, other):
        check_divisor(self, other)
        return made_poly(self._field, parts_divided(self._field, self._parts, other._parts)[1])

    def __neg__(self):
        return made_poly(self._field, parts_negated(self._field, self._parts))

    def __eq__(self, other):
        return isinstance(other, Poly) and self._field == other._field and self._parts == other._parts

    def __call__(self, x):
        check_element(x, self._field.size, "x")
        return value_at(self._field, self._parts, x)


def check_other(poly, other):
    """Check the right operand: a Poly over an equal field."""
    if not isinstance(other, Poly) or poly.field != other.field:
        raise BadShape("other")


def check_divisor(poly, other):
    """Check the right operand of a division."""
    check_other(poly, other)
    if other.degree < 0:
        raise NoInverse()


def made_poly(field, parts):
    """The Poly with these parts, of any number, which the class itself does not take from outside."""
    made = Poly(field, [])
    made._parts = trimmed(parts)
    return made


def trimmed(parts):
    """The parts without zeros at the high end."""
    many = len(parts)
    while many > 0 and parts[many - 1] == 0:
        many -= 1
    return parts[:many]


def padded(parts, many):
    """The parts with zeros at the high end, so many in all."""
    return parts + [0] * (many - len(parts))


def parts_plus(field, a, b):
    """The parts of the sum."""
    many = max(len(a), len(b))
    return add_rows(field, padded(a, many), padded(b, many))


def parts_negated(field, a):
    """The parts of the negative."""
    return [field.negatives[part] for part in a]


def parts_times(field, a, b):
    """The parts of the product."""
    product_parts = [0] * (len(a) + len(b))
    for i, x in enumerate(a):
        for j, y in enumerate(b):
            product_parts[i + j] = field.sums[product_parts[i + j]][field.products[x][y]]
    return product_parts


def parts_divided(field, a, b):
    """The parts of the quotient and of the remainder; the highest part of `b` is not 0."""
    rest = list(a)
    quotient = [0] * len(a)
    for low in reversed(range(len(a) - len(b) + 1)):
        factor = field.products[rest[low + len(b) - 1]][field.inverses[b[-1]]]
        quotient[low] = factor
        less = field.products[field.negatives[factor]]
        for j, part in enumerate(b):
            rest[low + j] = field.sums[rest[low + j]][less[part]]
    return quotient, rest


def value_at(field, parts, x):
    """The value of the polynomial at the element."""
    value = 0
    for part in reversed(parts):
        value = field.sums[field.products[value][x]][part]
    return value


def monic_parts(field, parts):
    """The parts divided by the highest one; none for none."""
    if len(parts) == 0:
        return []
    return scale_row(field, field.inverses[parts[-1]], parts)


def monic(poly):
    """The polynomial divided by its highest part."""
    return made_poly(poly.field, monic_parts(poly.field, poly.parts))


def common_divisor(a, b):
    """The monic polynomial of highest degree that divides both."""
    if a.field != b.field:
        raise BadShape("b")
    high, low = a.parts, b.parts
    while len(low) > 0:
        high, low = low, trimmed(parts_divided(a.field, high, low)[1])
    return made_poly(a.field, monic_parts(a.field, high))


def poly_through(field, points):
    """The polynomial of degree less than the number of points that goes through them."""
    check_points(field, points)
    parts, zeros = [], [1]
    for x, y in points:
        # `zeros` is 0 at all earlier points, so its multiple sets this point right and leaves those.
        gap = field.sums[y][field.negatives[value_at(field, parts, x)]]
        factor = field.products[gap][field.inverses[value_at(field, zeros, x)]]
        parts = parts_plus(field, parts, scale_row(field, factor, zeros))
        zeros = trimmed(parts_times(field, zeros, [field.negatives[x], 1]))
    return made_poly(field, parts)


def check_points(field, points):
    """Check the points of `poly_through`."""
    check_tuples(points, 0, MOST_POINTS, 2, "points")
    for point in points:
        check_entries(point, field.size, "points")
    if len(set([x for x, _ in points])) < len(points):
        raise BadShape("points")


def is_irreducible(poly):
    """Tell whether the polynomial has a degree of at least 1 and no proper divisor."""
    if poly.degree > MOST_DEGREE:
        raise BadShape("poly")
    # Of two factors one has at most half of the degree, and it may be taken as monic.
    for degree in range(1, poly.degree // 2 + 1):
        for low in all_rows(poly.field.size, degree):
            if trimmed(parts_divided(poly.field, poly.parts, low + [1])[1]) == []:
                return False
    return poly.degree >= 1


def told_poly(size):
    """The told polynomial of the field of that size, over the field of its prime."""
    field = Field(size)
    return Poly(Field(field.prime), field.told_parts())
