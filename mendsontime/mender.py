"""The mending engine: beats are taken one by one, and each letter is told or told lost once."""

from mendsontime.errors import Ended, TooLarge, check_boolean, check_heard, check_number, check_row
from mendsontime.forms import alike
from mendsontime.linear import values_of, with_equations
from mendsontime.reason import facts_of

MOST_DELAY = 6
MOST_BEATS = 60
MOST_UNKNOWN = 200


class Mender:
    """Tells the letters of one stream from the beats that are heard."""

    def __init__(self, code, delay):
        self._code = code
        self._delay = check_number(delay, 1, MOST_DELAY, "delay")
        # No later sign has a letter of more than so many beats ago, and no open letter is older.
        self._span = max(code.memory, delay)
        self._facts = code.fact_rows(self._span)
        # The reduced equations of the letters of the last `_span` beats, oldest beat first.
        self._pairs = []
        self._beat = 0
        self._letter_beats = 0
        self._log = []
        self._left = []

    def hear(self, signs, *, tail=False):
        """Take a heard beat; return what is told at it."""
        self._check_room()
        row = check_row(signs, self._code.field.size, self._code.signs, "signs")
        self._check_tail(tail)
        return self._take(row, tail)

    def lose(self, *, tail=False):
        """Take a lost beat; return what is told at it."""
        self._check_room()
        self._check_tail(tail)
        return self._take(None, tail)

    @property
    def beat(self):
        """The number of beats taken."""
        return self._beat

    def log(self):
        """The tuples of beat, place, value and moment of all letters told and told lost."""
        return list(self._log)

    def __iter__(self):
        return iter(self._log)

    def mended(self):
        """The letter rows of the beats taken, with None for letters told lost and open ones."""
        rows = [[None] * self._code.letters for _ in range(self._letter_beats)]
        for beat, place, value, _ in self._log:
            rows[beat][place] = value
        return rows

    def open_letters(self):
        """The tuples of beat and place of the letters that are neither told nor told lost."""
        return list(self._left)

    def _check_room(self):
        """Refuse a beat behind the last one that is taken."""
        if self._beat == MOST_BEATS:
            raise Ended()

    def _check_tail(self, tail):
        """Check the flag of a tail beat, and refuse a letter beat behind a tail beat."""
        check_boolean(tail, "tail")
        if not tail and self._letter_beats < self._beat:
            raise Ended()

    def _take(self, row, tail):
        """Take a beat with its sign row, None if it is lost."""
        many = self._code.letters
        letter_beats = self._letter_beats if tail else self._beat + 1
        pairs = [(place, fact[:-1] + [0] * many + fact[-1:]) for place, fact in self._pairs]
        if row is not None:
            # Signs that clash end the call here, where nothing of the object has changed yet.
            pairs = with_equations(self._code.field, pairs, self._equations(row, letter_beats), self._beat)
        if not tail:
            self._left = self._left + [(self._beat, place) for place in range(many)]
        told = self._settle_letters(values_of(pairs))
        # In reduced form the equations without the oldest letters are those whose pivots stand behind them.
        self._pairs = [(place - many, fact[many:]) for place, fact in pairs if place >= many]
        self._letter_beats = letter_beats
        self._beat += 1
        return told

    def _equations(self, row, letter_beats):
        """The equations of a heard beat; letters ahead of beat 0 and of tail beats are 0 and left out."""
        many = self._code.letters
        first = self._beat - self._span
        known = [not 0 <= first + place // many < letter_beats for place in range(many * (self._span + 1))]
        return [[0 if flag else entry for entry, flag in zip(fact, known)] + [sign]
                for fact, sign in zip(self._facts, row)]

    def _settle_letters(self, values):
        """Tell the open letters that have a value, and tell those lost that are due without one."""
        told, left = [], []
        for beat, place in self._left:
            at = (beat - self._beat + self._span) * self._code.letters + place
            if at in values or beat + self._delay == self._beat:
                told.append((beat, place, values.get(at)))
            else:
                left.append((beat, place))
        self._left = left
        self._log.extend([(beat, place, value, self._beat) for beat, place, value in told])
        return told


def run_mender(code, delay, heard, *, tail=0):
    """A Mender that has taken these beats, the last ones as tail beats."""
    mender = Mender(code, delay)
    received = checked_beats(code, heard, tail)
    for beat, row in enumerate(received):
        in_tail = beat >= len(received) - tail
        if row is None:
            mender.lose(tail=in_tail)
        else:
            mender.hear(row, tail=in_tail)
    return mender


def checked_beats(code, heard, tail):
    """Return a copy of the heard rows after their checks and that of the number of tail beats."""
    received = check_heard(heard, code.field.size, MOST_BEATS, code.signs, "heard")
    check_number(tail, 0, len(received), "tail")
    return received


def plain_log(code, delay, heard, *, tail=0):
    """The log of the run of a Mender, from all facts of the beats up to each beat."""
    check_number(delay, 1, MOST_DELAY, "delay")
    received = checked_beats(code, heard, tail)
    if code.letters * len(received) > MOST_UNKNOWN:
        raise TooLarge(MOST_UNKNOWN)
    letter_beats = len(received) - tail
    width = code.letters * letter_beats
    pairs = []
    told = {}
    log = []
    for at, row in enumerate(received):
        if row is not None:
            facts = facts_of(code, len(received), at)
            equations = [fact[:width] + [sign] for fact, sign in zip(facts, row)]
            pairs = with_equations(code.field, pairs, equations, at)
        for beat, place, value in told_at(code, delay, values_of(pairs), at, letter_beats):
            if (beat, place) not in told:
                told[(beat, place)] = True
                log.append((beat, place, value, at))
    return log


def told_at(code, delay, values, at, letter_beats):
    """What is to be told at a beat, also if it was told before: letters with values, and those that are due."""
    found = []
    for beat in range(max(0, at - delay), min(at + 1, letter_beats)):
        for place in range(code.letters):
            number = beat * code.letters + place
            if number in values or beat + delay == at:
                found.append((beat, place, values.get(number)))
    return found


def is_log(code, delay, heard, tail, paper):
    """Tell whether the paper is the log of the run of a Mender."""
    return alike(paper, plain_log(code, delay, heard, tail=tail))
