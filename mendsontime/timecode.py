"""Codes in time: letters and signs beat by beat, through taps that reach back."""

from mendsontime.errors import (
    check_entries, check_list, check_list_from, check_matrix, check_number, check_pattern, check_row, check_shape,
)
from mendsontime.linear import add_rows, combine_rows, first_place, unit_row

MOST_LETTERS = 12
MOST_SIGNS = 12
MOST_TAPS = 13
MOST_DELAY = 60
MOST_SPAN = 12
MOST_TAIL = 12
MOST_ROWS = 500
MOST_BEATS = 600


class TimeCode:
    """The code in time with these taps. It never changes."""

    def __init__(self, field, letters, signs, taps):
        self._field = field
        self._letters = check_number(letters, 0, MOST_LETTERS, "letters")
        self._signs = check_number(signs, 1, MOST_SIGNS, "signs")
        # The inside of the package reads the taps as they are, since copies for each beat are slow.
        self.taps = kept_taps(checked_taps(taps, field.size, letters, signs))
        self._plain = has_plain_taps(self.taps, letters)

    @property
    def field(self):
        """The field of the letters and signs."""
        return self._field

    @property
    def letters(self):
        """The number of letters a beat."""
        return self._letters

    @property
    def signs(self):
        """The number of signs a beat."""
        return self._signs

    @property
    def memory(self):
        """The greatest delay at which a letter still adds to a sign."""
        return len(self.taps) - 1

    @property
    def plain(self):
        """Whether the first signs of each beat are the letters of that beat."""
        return self._plain

    def tap(self, delay):
        """The matrix of that delay, zeros beyond the memory."""
        check_number(delay, 0, MOST_DELAY, "delay")
        if delay >= len(self.taps):
            return [[0] * self._signs for _ in range(self._letters)]
        return [list(row) for row in self.taps[delay]]

    def row_at(self, rows, beat):
        """The sign row of that beat."""
        stream = check_matrix(rows, self._field.size, MOST_ROWS, self._letters, "rows", exact=False)
        check_number(beat, 0, MOST_BEATS, "beat")
        return sign_row(self, stream, beat)

    def fact_rows(self, span):
        """For each sign the row that gives it from the letters of the last beats, oldest beat first."""
        check_number(span, 0, MOST_SPAN, "span")
        taps = [self.tap(delay) for delay in reversed(range(span + 1))]
        return [[row[sign] for tap in taps for row in tap] for sign in range(self._signs)]

    def __eq__(self, other):
        if not isinstance(other, TimeCode) or self._field != other._field:
            return False
        return self._letters == other._letters and self._signs == other._signs and self.taps == other.taps


def checked_taps(taps, size, letters, signs):
    """Return a copy of the taps; the shape of all of them goes ahead of every entry."""
    check_list_from(taps, 1, MOST_TAPS, "taps")
    for tap in taps:
        check_shape(tap, letters, signs, "taps", exact=True)
    return [[check_entries(row, size, "taps") for row in tap] for tap in taps]


def kept_taps(taps):
    """The taps as tuples, without those at the end that are all zero; tap 0 stays."""
    many = len(taps)
    while many > 1 and all([first_place(row) is None for row in taps[many - 1]]):
        many -= 1
    return tuple([tuple([tuple(row) for row in tap]) for tap in taps[:many]])


def has_plain_taps(taps, letters):
    """Tell whether the first signs are the letters of their beat."""
    for delay, tap in enumerate(taps):
        for place, row in enumerate(tap):
            due = unit_row(letters, place) if delay == 0 else [0] * letters
            # With fewer signs than letters this part of the row is too short.
            if list(row[:letters]) != due:
                return False
    return True


def sign_row(code, rows, beat):
    """The sign row of a beat; letter rows ahead of beat 0 and behind the last one count as zeros."""
    total = [0] * code.signs
    for delay, tap in enumerate(code.taps):
        if 0 <= beat - delay < len(rows):
            total = add_rows(code.field, total, combine_rows(code.field, code.signs, tap, rows[beat - delay]))
    return total


def encode_rows(code, rows, *, tail=0):
    """The sign rows of all letter rows and of a tail."""
    stream = check_matrix(rows, code.field.size, MOST_ROWS, code.letters, "rows", exact=False)
    check_number(tail, 0, MOST_TAIL, "tail")
    return [sign_row(code, stream, beat) for beat in range(len(stream) + tail)]


def heard_rows(code, sent, pattern):
    """The sign rows that are sent, with None for each lost beat."""
    rows = check_matrix(sent, code.field.size, MOST_BEATS, code.signs, "sent", exact=False)
    flags = check_pattern(pattern, len(rows), "pattern", exact=True)
    return [None if flag == 1 else row for row, flag in zip(rows, flags)]


def pattern_of(heard):
    """The pattern of heard rows, whatever their entries are."""
    check_list(heard, MOST_BEATS, "heard", exact=False)
    return [1 if row is None else 0 for row in heard]


class Encoder:
    """Makes the sign rows of one stream, beat by beat."""

    def __init__(self, code):
        self._code = code
        # The letter rows that still add to later signs, oldest first.
        self._recent = [[0] * code.letters for _ in range(code.memory)]
        self._beat = 0

    def push(self, letters):
        """The sign row of the next beat."""
        row = check_row(letters, self._code.field.size, self._code.letters, "letters")
        rows = self._recent + [row]
        self._recent = rows[1:]
        self._beat += 1
        return sign_row(self._code, rows, self._code.memory)

    def __call__(self, letters):
        return self.push(letters)

    def rest(self, tail):
        """The sign rows of so many beats whose letters are all 0."""
        check_number(tail, 0, MOST_TAIL, "tail")
        return [self.push([0] * self._code.letters) for _ in range(tail)]

    @property
    def beat(self):
        """The number of rows pushed."""
        return self._beat
