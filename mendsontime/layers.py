"""The two layers in which a base code is mended: first parts by words along slants, then late second parts."""

from mendsontime.block import ring_matrix
from mendsontime.linear import join_rows, sum_of_products, unit_row
from mendsontime.slant import told_letters


class Layers:
    """The letter rows of one base code, mended stretch by stretch in the order of the stretches."""

    def __init__(self, field, burst, delay, signs):
        self._field = field
        self._burst = burst
        self._delay = delay
        self._signs = signs
        # The number of letters of the first part.
        self._first = delay - burst
        self._ring = ring_matrix(self._first, burst)
        self._code = join_rows([unit_row(self._first, place) for place in range(self._first)], self._ring)
        self.rows = [[0] * delay if row is None else row[:delay] for row in signs]

    def mend(self, start, length):
        """Mend the stretch of that first beat and that length, as far as the heard beats reach."""
        lost = range(start, start + length)
        # All first parts of the stretch are found ahead of its second parts, whose checks contain them.
        parts = [[self._first_letter(start, length, beat, place) for place in range(self._first)] for beat in lost]
        for beat, part in zip(lost, parts):
            self.rows[beat] = part + [0] * self._burst
        for beat in lost:
            if beat + self._delay < len(self._signs):
                late = [self._late_letter(beat, check) for check in range(self._burst)]
                self.rows[beat] = self.rows[beat][:self._first] + late

    def _first_letter(self, start, length, beat, place):
        """A lost letter of a first part, from its word."""
        word = []
        for at in range(self._delay):
            moment = beat - place + at
            # Checks from this beat on still have late letters of the stretch itself.
            barred = start <= moment < start + length or moment >= start + self._delay
            word.append(None if barred else self._word_sign(moment, at))
        return told_letters(self._field, self._code, word)[place]

    def _word_sign(self, beat, place):
        """The sign of a word that stands in a beat whose letters and late letters are known."""
        if beat < 0:
            return 0
        if place < self._first:
            return self.rows[beat][place]
        late = self.rows[beat - self._delay][place] if beat >= self._delay else 0
        return self._less(self._signs[beat][self._burst + place], late)

    def _late_letter(self, beat, check):
        """A lost letter of a second part, read behind the check of the first parts."""
        due = beat + self._delay
        # Letter `place` of a word stands so many beats ahead of the check: the delays of a slant.
        letters = [self.rows[due - self._first - check + place][place] for place in range(self._first)]
        checked = sum_of_products(self._field, letters, [row[check] for row in self._ring])
        return self._less(self._signs[due][self._delay + check], checked)

    def _less(self, a, b):
        """The difference of two elements."""
        return self._field.sums[a][self._field.negatives[b]]
