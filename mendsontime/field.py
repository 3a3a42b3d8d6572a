"""Fields of 2 to 16 elements, each element a whole number."""

from mendsontime.errors import BadNumber, NoInverse, check_element, check_entries, check_list, check_number, is_whole

SIZES = (2, 3, 4, 5, 7, 8, 9, 11, 13, 16)

# Only the sizes that are not prime stand here; every other size is its own prime.
PRIMES = {4: 2, 8: 2, 9: 3, 16: 2}
TOLD_PARTS = {4: (1, 1, 1), 8: (1, 1, 0, 1), 9: (1, 0, 1), 16: (1, 1, 0, 0, 1)}
TOLD_OF_PRIME = (0, 1)


class Field:
    """The field of that size. It never changes, its tables are tuples."""

    def __init__(self, size):
        if type(size) is not int or size not in SIZES:
            raise BadNumber("size")
        self._size = size
        self._prime = PRIMES.get(size, size)
        self._told = TOLD_PARTS.get(size, TOLD_OF_PRIME)
        self._power = len(self._told) - 1
        self._all = tuple(range(size))
        spelled = [digits_of(a, self._prime, self._power) for a in range(size)]
        # The inner loops of the package read these tables, since a checked call for each entry is slow.
        self.sums = sum_table(spelled, self._prime)
        self.products = product_table(spelled, self._told, self._prime)
        self.negatives = tuple([row.index(0) for row in self.sums])
        self.inverses = (None,) + tuple([row.index(1) for row in self.products[1:]])

    @property
    def size(self):
        """The number of elements."""
        return self._size

    @property
    def prime(self):
        """The prime number whose power the size is."""
        return self._prime

    @property
    def power(self):
        """The number of digits of an element."""
        return self._power

    def plus(self, a, b):
        """The sum of two elements."""
        self._check_two(a, b)
        return self.sums[a][b]

    def minus(self, a, b):
        """The difference of two elements."""
        self._check_two(a, b)
        return self.sums[a][self.negatives[b]]

    def times(self, a, b):
        """The product of two elements."""
        self._check_two(a, b)
        return self.products[a][b]

    def over(self, a, b):
        """The product of `a` and the inverse of `b`."""
        self._check_two(a, b)
        return self.products[a][self.inverse(b)]

    def negated(self, a):
        """The difference of 0 and the element."""
        check_element(a, self._size, "a")
        return self.negatives[a]

    def inverse(self, a):
        """The element whose product with `a` is 1."""
        check_element(a, self._size, "a")
        if a == 0:
            raise NoInverse()
        return self.inverses[a]

    def raised(self, a, exponent):
        """The power of the element; the power 0 is 1, also of 0."""
        check_element(a, self._size, "a")
        check_number(exponent, -300, 300, "exponent")
        base = a if exponent >= 0 else self.inverse(a)
        reached = 1
        for _ in range(abs(exponent)):
            reached = self.products[reached][base]
        return reached

    def order_of(self, a):
        """The least exponent from 1 on whose power of the element is 1."""
        check_element(a, self._size, "a")
        if a == 0:
            raise NoInverse()
        order = 1
        reached = a
        while reached != 1:
            order += 1
            reached = self.products[reached][a]
        return order

    def digits(self, a):
        """The list of the digits of the element, lowest first."""
        check_element(a, self._size, "a")
        return digits_of(a, self._prime, self._power)

    def from_digits(self, digits):
        """The element with these digits, lowest first."""
        check_list(digits, self._power, "digits", exact=True)
        check_entries(digits, self._prime, "digits")
        return number_of(digits, self._prime)

    def told_parts(self):
        """The list of the parts of the told polynomial, lowest first."""
        return list(self._told)

    def _check_two(self, a, b):
        """Check two elements, the first one first."""
        check_element(a, self._size, "a")
        check_element(b, self._size, "b")

    def __contains__(self, x):
        return is_whole(x, 0, self._size - 1)

    def __iter__(self):
        return iter(self._all)

    def __eq__(self, other):
        return isinstance(other, Field) and self._size == other._size


def digits_of(a, prime, power):
    """The digits of a number to the base of the prime, lowest first."""
    digits = []
    for _ in range(power):
        digits.append(a % prime)
        a = a // prime
    return digits


def number_of(digits, prime):
    """The number with these digits, lowest first."""
    number = 0
    for digit in reversed(digits):
        number = number * prime + digit
    return number


def sum_table(spelled, prime):
    """The table of sums, from the list of the digits of each element."""
    return tuple([tuple([number_of([(x + y) % prime for x, y in zip(a, b)], prime) for b in spelled])
                  for a in spelled])


def product_table(spelled, told, prime):
    """The table of products, from the list of the digits of each element."""
    return tuple([tuple([number_of(product_digits(a, b, told, prime), prime) for b in spelled])
                  for a in spelled])


def product_digits(a, b, told, prime):
    """The remainder by the told polynomial of the product of two polynomials."""
    power = len(told) - 1
    parts = [0] * (2 * power)
    for i, x in enumerate(a):
        for j, y in enumerate(b):
            parts[i + j] = (parts[i + j] + x * y) % prime
    # The told polynomial is monic, so its multiple by the part itself takes each high part away.
    for high in reversed(range(power, 2 * power)):
        factor = parts[high]
        for j, part in enumerate(told):
            place = high - power + j
            parts[place] = (parts[place] - factor * part) % prime
    return parts[:power]


def generator(field):
    """The least element whose powers are all elements other than 0."""
    return min([a for a in range(1, field.size) if field.order_of(a) == field.size - 1])
