"""The making for bursts: base codes, copies of them, and the mending in two layers."""

from math import gcd

from mendsontime.block import ring_matrix
from mendsontime.errors import BadShape, NotMade, TooLarge, check_heard, check_number
from mendsontime.layers import Layers
from mendsontime.linear import join_rows
from mendsontime.patterns import stretches
from mendsontime.rules import BurstRule
from mendsontime.timecode import TimeCode, pattern_of

MOST_IN_SETTING = 8
MOST_LETTERS = 12
MOST_SIGNS = 12
MOST_BURST = 8
MOST_BASE_BURST = 6
MOST_DELAY = 6
MOST_HEARD = 60


def check_setting(letters, signs, burst, delay):
    """Check the setting conditions."""
    check_number(letters, 0, MOST_IN_SETTING, "letters")
    check_number(signs, max(1, letters), MOST_IN_SETTING, "signs")
    check_number(burst, 0, MOST_BURST, "burst")
    check_number(delay, 1, MOST_DELAY, "delay")


def can_make(letters, signs, burst, delay):
    """Tell whether the setting can be made."""
    check_setting(letters, signs, burst, delay)
    return letters == 0 or (burst <= delay and letters * (delay + burst) <= signs * delay)


def base_taps(burst, delay):
    """The taps of the base code: the ring code along slants, and the second parts late by the whole delay."""
    first = delay - burst
    ring = ring_matrix(first, burst)
    taps = [[[0] * (delay + burst) for _ in range(delay)] for _ in range(delay + 1)]
    for letter in range(delay):
        taps[0][letter][letter] = 1
    for check in range(burst):
        taps[delay][first + check][delay + check] = 1
        for letter in range(first):
            taps[first + check - letter][letter][delay + check] = ring[letter][check]
    return taps


def base_code(field, burst, delay):
    """The base code of a burst and a delay."""
    check_number(burst, 0, MOST_BASE_BURST, "burst")
    check_number(delay, 1, MOST_DELAY, "delay")
    if burst > delay:
        raise NotMade()
    return TimeCode(field, delay, delay + burst, base_taps(burst, delay))


def copies_of(letters, delay):
    """The number of base codes that so many letters need."""
    return (letters + delay - 1) // delay


def least_signs(letters, burst, delay):
    """The signs of copies, without further ones that are always 0."""
    return max(1, letters + copies_of(letters, delay) * burst)


def copies_taps(letters, signs, burst, delay):
    """The taps of copies side by side: all letters first, then the checks of each copy."""
    base = base_taps(burst, delay)
    taps = [[[0] * signs for _ in range(letters)] for _ in base]
    for letter in range(letters):
        taps[0][letter][letter] = 1
        first = letters + letter // delay * burst
        for late, base_tap in enumerate(base):
            taps[late][letter][first:first + burst] = base_tap[letter % delay][delay:]
    return taps


def copies_code(field, letters, burst, delay, *, signs=None):
    """The code of copies of the base code for any number of letters."""
    check_number(letters, 0, MOST_LETTERS, "letters")
    check_number(burst, 0, MOST_BURST, "burst")
    check_number(delay, 1, MOST_DELAY, "delay")
    if signs is not None:
        check_number(signs, 1, MOST_SIGNS, "signs")
    if letters > 0 and burst > delay:
        raise NotMade()
    least = least_signs(letters, burst, delay)
    if signs is not None and signs < least:
        raise NotMade()
    if least > MOST_SIGNS:
        raise TooLarge(MOST_SIGNS)
    width = least if signs is None else signs
    taps = [[]] if letters == 0 else copies_taps(letters, width, burst, delay)
    return TimeCode(field, letters, width, taps)


class Making:
    """The code that mends the bursts of a setting. It never changes."""

    def __init__(self, field, letters, signs, burst, delay):
        if not can_make(letters, signs, burst, delay):
            raise NotMade()
        self._field = field
        self._letters = letters
        self._signs = signs
        self._burst = burst
        self._delay = delay
        # With this multiple each copy has its checks among the signs that are no letters.
        self._multiple = 1 if letters == 0 or burst == 0 else burst // gcd(burst, signs - letters)
        if signs * self._multiple > MOST_SIGNS:
            raise TooLarge(MOST_SIGNS)
        self._code = copies_code(field, letters * self._multiple, burst, delay, signs=signs * self._multiple)

    @property
    def field(self):
        """The field of the code."""
        return self._field

    @property
    def letters(self):
        """The letters of the setting."""
        return self._letters

    @property
    def signs(self):
        """The signs of the setting."""
        return self._signs

    @property
    def burst(self):
        """The burst of the setting."""
        return self._burst

    @property
    def delay(self):
        """The delay of the setting."""
        return self._delay

    @property
    def multiple(self):
        """How many times the letters and signs of the setting the code has."""
        return self._multiple

    @property
    def code(self):
        """The code in time."""
        return self._code


def mend_layers(making, heard):
    """The letter rows whose due beats lie within the heard rows, found in two layers."""
    many = making.code.letters
    received = check_heard(heard, making.field.size, MOST_HEARD, making.code.signs, "heard")
    lost = pattern_of(received)
    if lost not in BurstRule(making.burst, making.delay):
        raise BadShape("heard")
    beats = max(0, len(received) - making.delay)
    # A stretch that begins later has no letter that is due.
    runs = [run for run in stretches(lost) if run[0] < beats]
    mended = [[] for _ in received]
    for copy in range(copies_of(many, making.delay)):
        layers = Layers(making.field, making.burst, making.delay, [copy_signs(making, row, copy) for row in received])
        for first, length in runs:
            layers.mend(first, length)
        mended = join_rows(mended, layers.rows)
    return [row[:many] for row in mended[:beats]]


def copy_signs(making, row, copy):
    """The signs of one copy as those of a base code, with 0 for left-over letters; None for a lost beat."""
    if row is None:
        return None
    many = making.code.letters
    letters = row[:many][copy * making.delay:(copy + 1) * making.delay]
    first = many + copy * making.burst
    return letters + [0] * (making.delay - len(letters)) + row[first:first + making.burst]
