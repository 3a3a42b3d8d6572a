"""What the tests share: wrong values, and checks that hold for every function."""

import copy
import itertools

from mendsontime.errors import BadElement, BadNumber, BadShape
from mendsontime.field import Field

SIZES = (2, 3, 4, 5, 7, 8, 9, 11, 13, 16)

NO_NUMBERS = (True, False, None, "1", "", 1.0, 0.0, b"1", [], [1], (), (1,), {}, {1}, 1j, object())

NO_LISTS = (True, None, 0, 1, "", "ab", b"", (), (0,), {}, {0}, range(2), object())

NESTED = []
for _ in range(19):
    NESTED = [NESTED]

# Papers of every kind that point 8 allows.
ODD_PAPERS = (
    True, False, None, 0, 1, -1, 10 ** 40, "", "factors", "x" * 300, (), (0,), (None,), ((), ()), [None], [True],
    [False], ["0"], [()], [(0,)], [[]], [[], []], [[0]], [[True]], [[None]], [["a"]], [-1], [99], [0, True], [0, None],
    [0, "1"], ("factors", [0]), [("code", [])], NESTED, [0] * 5000, [[0] * 300] * 300, (NESTED, None),
)


def too_low_and_high(low, high):
    return [low - 1, high + 1, -1, 10 ** 30] if low >= 0 else [low - 1, high + 1, 10 ** 30]


def bad_numbers(low, high):
    """Pairs of a wrong number and its error."""
    outside = [value for value in too_low_and_high(low, high) if not low <= value <= high]
    return [(value, BadNumber) for value in list(NO_NUMBERS) + outside]


def bad_entries(size):
    return list(NO_NUMBERS) + [-1, size, size + 1, 10 ** 30]


def bad_elements(size):
    """Pairs of a wrong element and its error."""
    return [(value, BadElement) for value in bad_entries(size)]


def with_each_entry(row, entries):
    """The rows with one wrong entry, at each place."""
    for at in range(len(row)):
        for entry in entries:
            yield row[:at] + [entry] + row[at + 1:]


def bad_rows(size, row, *, most=None):
    """Pairs of a wrong row and its error; `most` tells that the row may have other lengths."""
    found = [(value, BadShape) for value in NO_LISTS]
    found.append((tuple(row), BadShape))
    longer = [row + [0]] if most is None else [[0] * (most + 1)]
    shorter = [row[:-1]] if most is None and row else []
    for wrong in longer + shorter:
        found.append((wrong, BadShape))
        if wrong:
            # A wrong length goes ahead of a wrong entry.
            found.append((wrong[:-1] + [None], BadShape))
    found.extend((wrong, BadElement) for wrong in with_each_entry(row, bad_entries(size)))
    return found


def bad_matrices(size, rows, *, most=None):
    """Pairs of a wrong matrix and its error; `most` tells that it may have fewer rows than so many."""
    width = len(rows[0])
    found = [(value, BadShape) for value in NO_LISTS]
    found.append((tuple(rows), BadShape))
    if most is None:
        found.append((rows + [[0] * width], BadShape))
        found.append((rows[:-1], BadShape))
        found.append((rows[:-1] + [[size] * width] * 2, BadShape))
    else:
        found.append(([[0] * width] * (most + 1), BadShape))
        found.append(([[size] * width] * (most + 1), BadShape))
    for at in range(len(rows)):
        for wrong in (tuple(rows[at]), None, 0, "a" * width, rows[at] + [0], rows[at][:-1] or [0, 0], {}):
            if wrong == rows[at]:
                continue
            found.append((rows[:at] + [wrong] + rows[at + 1:], BadShape))
        for row in with_each_entry(rows[at], bad_entries(size)):
            found.append((rows[:at] + [row] + rows[at + 1:], BadElement))
    if len(rows) > 1 and width:
        # The shape of all rows goes ahead of the entries of the first.
        found.append(([[size] * width] + rows[1:-1] + [rows[-1] + [0]], BadShape))
        found.append(([[None] * width] + rows[1:-1] + [tuple(rows[-1])], BadShape))
    return found


def bad_patterns(pattern, *, exact):
    """Pairs of a wrong pattern and its error."""
    found = bad_rows(2, pattern)
    if not exact:
        found = [(value, error) for value, error in found if error is BadElement or type(value) is not list]
    return found


def alike(a, b):
    """Tell whether two values are equal and of the same kinds through all levels."""
    if type(a) is not type(b):
        return False
    if type(a) in (list, tuple):
        return len(a) == len(b) and all(alike(x, y) for x, y in zip(a, b))
    return a == b


def lists_in(value):
    """All lists that stand in the value."""
    found = [value] if type(value) is list else []
    if type(value) in (list, tuple):
        for part in value:
            found.extend(lists_in(part))
    return found


def spoil(value):
    """Change every list that stands in the value."""
    for part in lists_in(value):
        part.append("spoilt")
        part.reverse()


def check_answer(case, function, good, keywords=None):
    """Call by position and by name; look at the arguments, the lists of the answer, and a later answer."""
    keywords = keywords or {}
    before = copy.deepcopy(good)
    answer = function(*good.values(), **keywords)
    case.assertTrue(alike(list(before.values()), list(good.values())), "an argument was changed")
    case.assertTrue(alike(answer, function(**good, **keywords)), "by name the answer is another one")
    found = lists_in(answer)
    passed = [id(part) for value in good.values() for part in lists_in(value)]
    case.assertEqual(len(set(map(id, found))), len(found), "a list stands twice in the answer")
    case.assertFalse(set(map(id, found)) & set(passed), "a list that was passed stands in the answer")
    kept = copy.deepcopy(answer)
    spoil(answer)
    case.assertTrue(alike(list(before.values()), list(good.values())), "the answer shares with an argument")
    case.assertTrue(alike(function(*good.values(), **keywords), kept), "a changed answer changed a later one")
    return kept


def check_error(case, error, argument, function, *args, **named):
    """The call raises just this error, with this argument."""
    with case.assertRaises(error) as caught:
        function(*args, **named)
    case.assertIs(type(caught.exception), error)
    if argument is not None:
        case.assertIs(type(caught.exception.argument), str)
        case.assertEqual(caught.exception.argument, argument)


def check_errors(case, function, good, bad, keywords=None):
    """Each wrong value alone, and with a wrong value of a later argument, where the earlier one decides."""
    keywords = keywords or {}
    names = list(good)
    for at, name in enumerate(names):
        for value, error in bad.get(name, ()):
            with case.subTest(argument=name, value=repr(value)[:80]):
                named = {**good, name: value}
                check_error(case, error, name, function, *named.values(), **keywords)
                for later in names[at + 1:]:
                    for other, _ in bad.get(later, ())[:1] + bad.get(later, ())[-1:]:
                        both = {**named, later: other}
                        check_error(case, error, name, function, **both, **keywords)


def check_call(case, function, good, bad, keywords=None):
    """All that holds for every function."""
    check_errors(case, function, good, bad, keywords)
    return check_answer(case, function, good, keywords)


def check_papers(case, function, good, right, wrong):
    """The judge says True for the right papers and False for the wrong ones and the odd ones."""
    for paper in right:
        case.assertIs(function(*good, paper), True)
        kept = copy.deepcopy(paper)
        function(*good, paper=paper)
        case.assertTrue(alike(paper, kept), "the paper was changed")
    for paper in list(wrong) + list(ODD_PAPERS):
        if any(alike(paper, other) for other in right):
            continue
        case.assertIs(function(*good, paper), False, repr(paper)[:80])


def near_papers(size, paper):
    """Wrong papers near a right list: of another kind or length, or with an entry of another kind."""
    yield tuple(paper)
    yield paper + [0]
    yield [paper]
    if paper:
        yield paper[:-1]
    for at in range(len(paper)):
        for entry in (None, "0", bool(paper[at] % 2), [paper[at]], (paper[at],), -1, paper[at] - size, size):
            yield paper[:at] + [entry] + paper[at + 1:]


def all_lists(size, length):
    """All lists of elements of that length, ascending."""
    return [list(row) for row in itertools.product(range(size), repeat=length)]


def all_matrices(size, high, width):
    """All matrices of elements."""
    for flat in itertools.product(range(size), repeat=high * width):
        yield [list(flat[at * width:(at + 1) * width]) for at in range(high)]


def some_matrices():
    """Triples of a field, a width and a matrix: all small ones."""
    for size, high, width in ((2, 0, 0), (2, 0, 2), (2, 2, 0), (2, 3, 2), (2, 2, 3), (2, 3, 3), (3, 2, 2), (4, 2, 2)):
        field = Field(size)
        for rows in all_matrices(size, high, width):
            yield field, width, rows


def plain_sum(field, a, b):
    """The sum of products by the field's own methods."""
    total = 0
    for x, y in zip(a, b, strict=True):
        total = field.plus(total, field.times(x, y))
    return total


def plain_combination(field, width, rows, factors):
    """The combination, place by place, by the field's own methods."""
    return [plain_sum(field, factors, [row[at] for row in rows]) for at in range(width)]


def span(field, width, rows):
    """The set of all combinations of the rows."""
    return {tuple(plain_combination(field, width, rows, factors)) for factors in all_lists(field.size, len(rows))}


class Numbers:
    """A row of numbers that is the same in each run."""

    def __init__(self, seed):
        self.state = seed

    def below(self, bound):
        self.state = (self.state * 6364136223846793005 + 1442695040888963407) % 2 ** 64
        return (self.state >> 33) % bound

    def row(self, size, length):
        return [self.below(size) for _ in range(length)]

    def matrix(self, size, high, width):
        return [self.row(size, width) for _ in range(high)]


def check_same(case, answer, due):
    """The answer is equal to the due one and of the same kinds through all levels."""
    case.assertTrue(alike(answer, due), f"{repr(answer)[:200]} is not {repr(due)[:200]}")


def plain_signs(code, rows, beat):
    """The signs of a beat, by the taps and the field's own methods."""
    field, total = code.field, [0] * code.signs
    for delay in range(min(beat, code.memory) + 1):
        tap = code.tap(delay)
        letters = rows[beat - delay] if beat - delay < len(rows) else [0] * code.letters
        for letter, entries in zip(letters, tap, strict=True):
            total = [field.plus(x, field.times(letter, y)) for x, y in zip(total, entries)]
    return total


def plain_heard(code, rows, pattern):
    """The heard rows of a stream, by the taps."""
    return [None if flag else plain_signs(code, rows, beat) for beat, flag in enumerate(pattern)]


def all_streams(size, letters, beats):
    """All streams of so many letter rows."""
    return list(all_matrices(size, beats, letters))


def some_pattern(numbers, rule, beats):
    """A pattern that keeps the rule."""
    pattern, state = [], rule.first_state()
    for _ in range(beats):
        lost = int(numbers.below(5) < 3 and rule.after(state, 1) is not None)
        pattern.append(lost)
        state = rule.after(state, lost)
    return pattern


def moved(matrix, size):
    """Another list of the same shape with one entry changed."""
    return [[(entry + 1) % size if (i, j) == (0, 0) else entry for j, entry in enumerate(row)]
            for i, row in enumerate(matrix)]


class Steps:
    """A rule of the test's own, with no more than what rules of all classes have: a state for each beat."""

    def __init__(self, beats, lost_at=()):
        self.beats = beats
        self.lost_at = lost_at

    def first_state(self):
        return (0, 0)

    def after(self, state, lost):
        if lost and state[0] not in self.lost_at:
            return None
        return (min(state[0] + 1, self.beats), lost)

    def __contains__(self, pattern):
        state = self.first_state()
        for lost in pattern:
            state = None if state is None else self.after(state, lost)
        return state is not None


class Ladder:
    """A rule with a state for each number of beats, whose last state breaks or stays."""

    def __init__(self, length, breaks):
        self.length = length
        self.breaks = breaks

    def first_state(self):
        return 0

    def after(self, state, lost):
        if lost and self.breaks and state == self.length:
            return None
        return min(state + 1, self.length) if lost else 0


class Chain:
    """A rule with a state for each beat up to a last one; only there a beat may be lost."""

    def __init__(self, beats):
        self.beats = beats

    def first_state(self):
        return 0

    def after(self, state, lost):
        if lost:
            return self.beats if state == self.beats - 1 else None
        return 0 if state == self.beats else min(state + 1, self.beats - 1)
