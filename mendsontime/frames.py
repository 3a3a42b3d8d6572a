"""Frames: sign rows as texts with a mark, their ways to the listener, and their sender."""

from mendsontime.errors import (
    BadNumber, BadShape, BadText, Ended, check_entries, check_list, check_list_from, check_matrix, check_number,
)
from mendsontime.field import SIZES
from mendsontime.timecode import Encoder
from mendsontime.words import read_row, read_whole, row_text

MOST_BEAT = 999
MOST_SIGNS = 12
# Signs are elements of any field.
MOST_SIZE = 16
MARKS = 97
MOST_TEXTS = 60
MOST_ARRIVALS = 20
MOST_CLOCK = 999
MOST_TICKS = 100
MOST_DELAY = 6
MOST_LETTER_BEATS = 54


def mark_of(beat, row):
    """The mark of a frame."""
    return (5 * beat + sum([(place + 1) * sign for place, sign in enumerate(row)])) % MARKS


def text_of(beat, row):
    """The text of a frame."""
    return f"{beat} {row_text(row)} {mark_of(beat, row)}"


def frame_mark(beat, row):
    """The mark of a frame of that beat and that sign row."""
    check_number(beat, 0, MOST_BEAT, "beat")
    check_list_from(row, 1, MOST_SIGNS, "row")
    return mark_of(beat, check_entries(row, MOST_SIZE, "row"))


def frame_text(frame):
    """The text of a frame, a tuple of beat and sign row."""
    if type(frame) is not tuple or len(frame) != 2:
        raise BadShape("frame")
    beat, row = frame
    check_list_from(row, 1, MOST_SIGNS, "frame")
    check_number(beat, 0, MOST_BEAT, "frame")
    return text_of(beat, check_entries(row, MOST_SIZE, "frame"))


def read_frame(text, size, signs):
    """The frame with that text, of so many signs over the field of that size."""
    if type(size) is not int or size not in SIZES:
        raise BadNumber("size")
    check_number(signs, 1, MOST_SIGNS, "signs")
    frame = frame_of(text, size, signs)
    if frame is None:
        raise BadText(1)
    return frame


def frame_of(text, size, signs):
    """The frame with that text, or None if there is none."""
    if type(text) is not str:
        return None
    words = text.split(" ")
    if len(words) != 3:
        return None
    beat = read_whole(words[0], MOST_BEAT)
    row = read_row(words[1], signs, size - 1)
    if beat is None or row is None or len(row) != signs:
        return None
    return (beat, row) if words[2] == str(mark_of(beat, row)) else None


def check_arrivals(arrivals, many):
    """Return a copy of the clocks at which each of so many texts arrives."""
    check_list(arrivals, many, "arrivals", exact=True)
    for clocks in arrivals:
        check_list(clocks, MOST_ARRIVALS, "arrivals", exact=False)
    return [check_entries(clocks, MOST_CLOCK + 1, "arrivals") for clocks in arrivals]


def deliver(texts, arrivals, ticks):
    """The lists of the texts that arrive at each clock."""
    check_list(texts, MOST_TEXTS, "texts", exact=False)
    coming = check_arrivals(arrivals, len(texts))
    check_number(ticks, 0, MOST_TICKS, "ticks")
    return [[text for text, clocks in zip(texts, coming) for _ in range(clocks.count(clock))]
            for clock in range(ticks)]


class Sender:
    """Makes the frame texts of one stream and of the tail behind it."""

    def __init__(self, code, delay, *, beats):
        self._code = code
        self._delay = check_number(delay, 1, MOST_DELAY, "delay")
        self._beats = check_number(beats, 0, MOST_LETTER_BEATS, "beats")
        self._encoder = Encoder(code)
        self._finished = False

    def push(self, letters):
        """The frame text of the next beat."""
        if self._finished or self.beat == self._beats:
            raise Ended()
        return self._next_text(letters)

    def finish(self):
        """The texts of all frames that are still to come."""
        if self._finished:
            raise Ended()
        self._finished = True
        left = self._beats + self._delay - self.beat
        return [self._next_text([0] * self._code.letters) for _ in range(left)]

    @property
    def beat(self):
        """The number of frames returned."""
        return self._encoder.beat

    def _next_text(self, letters):
        """The frame text of the next beat with these letters."""
        beat = self.beat
        return text_of(beat, self._encoder.push(letters))


def send_all(code, delay, rows):
    """All frame texts of a stream and of its tail."""
    check_number(delay, 1, MOST_DELAY, "delay")
    stream = check_matrix(rows, code.field.size, MOST_LETTER_BEATS, code.letters, "rows", exact=False)
    sender = Sender(code, delay, beats=len(stream))
    return [sender.push(row) for row in stream] + sender.finish()
