"""The listener of a line: frames are taken as they arrive, settled by a clock, and letter rows are played."""

from mendsontime.errors import Clash, Ended, check_number
from mendsontime.frames import check_arrivals, deliver, frame_of, send_all
from mendsontime.mender import Mender

MOST_LETTER_BEATS = 54
MOST_SLACK = 9

# The words for frames, in the order in which they are counted.
WORDS = ("kept", "late", "twice", "spoilt", "far")


class Listener:
    """Keeps the frames that arrive in time, and plays each letter row so many ticks behind its beat."""

    def __init__(self, code, delay, *, beats, slack=0):
        self._mender = Mender(code, delay)
        self._code = code
        self._delay = delay
        self._beats = check_number(beats, 0, MOST_LETTER_BEATS, "beats")
        self._slack = check_number(slack, 0, MOST_SLACK, "slack")
        self._clock = 0
        # The sign rows of the frames that were kept, by their beats.
        self._kept = {}
        self._settled = []
        self._played = []
        self._answers = {word: 0 for word in WORDS}
        self._clashes = 0

    def take(self, text):
        """Take a frame text that has arrived, of any kind; return the word for it."""
        frame = frame_of(text, self._code.field.size, self._code.signs)
        word = self._word_for(frame)
        if word == "kept":
            self._kept[frame[0]] = frame[1]
        self._answers[word] += 1
        return word

    def tick(self):
        """Settle a beat and play a letter row; return the beat and the row, or None if none is played."""
        if self._clock == self._beats + self._delay + self._slack:
            raise Ended()
        beat = self._clock - self._slack
        if beat >= 0:
            self._settle(beat)
        self._clock += 1
        due = beat - self._delay
        if due < 0:
            return None
        row = self._mender.mended()[due]
        self._played.append(row)
        return (due, list(row))

    @property
    def clock(self):
        """The number of ticks made."""
        return self._clock

    def settled(self):
        """The pattern of the settled beats."""
        return list(self._settled)

    def played(self):
        """The list of the rows played."""
        return [list(row) for row in self._played]

    def counts(self):
        """How many frames were answered with each word, and how many beats counted as lost because of a clash."""
        return tuple([self._answers[word] for word in WORDS] + [self._clashes])

    def _word_for(self, frame):
        """The first word that fits a frame, None for a text that is none."""
        if frame is None:
            return "spoilt"
        if frame[0] >= self._beats + self._delay:
            return "far"
        if frame[0] < len(self._settled):
            return "late"
        return "twice" if frame[0] in self._kept else "kept"

    def _settle(self, beat):
        """Settle a beat: it is heard if its frame was kept and does not clash."""
        tail = beat >= self._beats
        heard = beat in self._kept and self._hears(self._kept[beat], tail)
        if not heard:
            self._mender.lose(tail=tail)
        self._settled.append(0 if heard else 1)

    def _hears(self, signs, tail):
        """Let the mender hear the signs; tell whether they did not clash."""
        try:
            self._mender.hear(signs, tail=tail)
        except Clash:
            self._clashes += 1
            return False
        return True


def play_line(code, delay, rows, arrivals, *, slack=0):
    """The rows that a listener plays when these rows are sent and their frames arrive so."""
    texts = send_all(code, delay, rows)
    check_arrivals(arrivals, len(texts))
    listener = Listener(code, delay, beats=len(rows), slack=slack)
    for coming in deliver(texts, arrivals, len(texts) + slack):
        for text in coming:
            listener.take(text)
        listener.tick()
    return listener.played()
