import copy
import unittest

from mendsontime.burstmake import Making, base_code
from mendsontime.errors import BadElement, BadNumber, BadShape, Clash, Ended
from mendsontime.field import Field
from mendsontime.frames import deliver, frame_text, send_all
from mendsontime.listener import Listener, play_line
from mendsontime.mender import plain_log
from mendsontime.rules import BurstRule
from mendsontime.timecode import TimeCode

from helping import (
    NO_LISTS, SIZES, Numbers, bad_entries, bad_matrices, bad_numbers, check_answer, check_error, check_errors,
    check_same, some_pattern, spoil,
)
from test_mender import some_code

NO_FRAMES = (None, True, 0, 3, 1.5, b"0 1 6", "", "0 1", "0 1 6", [], ["0 1.0 1"], ("0", "1.0", "1"), {}, object(),
             "0 1.0 2", "00 1.0 1", "0 1.0 1\n", " 0 1.0 1", "0 3.0 3", "0 1.0.0 1", "9" * 5000, "0 1.0 " + "1" * 5000,
             "\uff10 1.0 1", "1000 0.0 53")


class PlainListener:
    """A listener by the words of the document: all is worked out anew from what was taken."""

    def __init__(self, code, delay, beats, slack):
        self.code, self.delay, self.beats, self.slack = code, delay, beats, slack
        self.clock, self.kept, self.heard, self.clashes = 0, {}, [], 0
        self.words = []

    def take(self, text):
        frame = None
        for beat in range(1000):
            if type(text) is str and text.split(" ")[0] == str(beat):
                frame = self.read(text, beat)
        if frame is None:
            word = "spoilt"
        elif frame[0] >= self.beats + self.delay:
            word = "far"
        elif frame[0] < self.clock - self.slack:
            word = "late"
        elif frame[0] in self.kept:
            word = "twice"
        else:
            word = "kept"
            self.kept[frame[0]] = frame[1]
        self.words.append(word)
        return word

    def read(self, text, beat):
        words = text.split(" ")
        if len(words) != 3 or not all(part in [str(x) for x in range(16)] for part in words[1].split(".")):
            return None
        row = [int(part) for part in words[1].split(".")]
        fits = len(row) == self.code.signs and max(row) < self.code.field.size
        return (beat, row) if fits and frame_text((beat, row)) == text else None

    def log(self):
        return plain_log(self.code, self.delay, self.heard, tail=max(0, len(self.heard) - self.beats))

    def tick(self):
        beat = self.clock - self.slack
        if beat >= 0:
            self.heard.append(self.kept.get(beat))
            try:
                self.log()
            except Clash:
                self.heard[-1] = None
                self.clashes += 1
        self.clock += 1
        due = beat - self.delay
        if due < 0:
            return None
        values = {entry[:2]: entry[2] for entry in self.log()}
        return (due, [values[(due, place)] for place in range(self.code.letters)])

    def counts(self):
        return tuple(self.words.count(word) for word in ("kept", "late", "twice", "spoilt", "far")) + (self.clashes,)


def state_of(listener):
    return listener.clock, listener.settled(), listener.played(), listener.counts()


class PlainMeaning(unittest.TestCase):
    def check_run(self, numbers, code, delay, beats, slack, wild):
        """A run with frames of the line, of another line, and spoilt ones, in any order."""
        size = code.field.size
        texts = send_all(code, delay, numbers.matrix(size, beats, code.letters))
        others = send_all(code, delay, numbers.matrix(size, beats, code.letters))
        listener = Listener(code, delay, beats=beats, slack=slack)
        plain = PlainListener(code, delay, beats, slack)
        played = []
        for clock in range(beats + delay + slack):
            for _ in range(numbers.below(4)):
                at = max(0, min(len(texts) - 1, clock - slack + numbers.below(4) - 1))
                text = others[at] if wild and numbers.below(2) == 0 else texts[at]
                if wild and numbers.below(6) == 0:
                    text = (text + "0", frame_text((beats + delay + numbers.below(3), [0] * code.signs)), None,
                            text.replace(".", ","))[numbers.below(4)]
                check_same(self, listener.take(text), plain.take(text))
            found = listener.tick()
            check_same(self, found, plain.tick())
            if found is not None:
                self.assertEqual(found[0], len(played))
                played.append(found[1])
            check_same(self, state_of(listener), (plain.clock, [int(row is None) for row in plain.heard], played,
                                                  plain.counts()))
        check_error(self, Ended, None, listener.tick)
        self.assertEqual(len(played), beats)
        return plain.counts()

    def test_against_the_plain_meaning(self):
        numbers = Numbers(19)
        totals = [0] * 6
        for turn in range(160):
            size, letters = ((2, 1), (3, 1), (2, 2), (4, 1), (16, 1))[numbers.below(5)]
            code = some_code(numbers, size, letters, 1 + 3 * (turn % 2) + numbers.below(4), numbers.below(4))
            found = self.check_run(numbers, code, 1 + numbers.below(4), numbers.below(9), numbers.below(5), turn % 2)
            totals = [a + b for a, b in zip(totals, found)]
        self.assertGreater(min(totals), 30, totals)

    def test_each_row_is_played_at_its_tick(self):
        for delay in (1, 3, 6):
            for slack in (0, 2, 9):
                for beats in (0, 1, 5, 54):
                    listener = Listener(base_code(Field(2), 1, 1), delay, beats=beats, slack=slack)
                    for clock in range(beats + delay + slack):
                        check_same(self, listener.clock, clock)
                        found = listener.tick()
                        due = clock - slack - delay
                        check_same(self, found, (due, [None]) if due >= 0 else None)
                    check_error(self, Ended, None, listener.tick)
                    check_same(self, state_of(listener), (beats + delay + slack, [1] * (beats + delay),
                                                          [[None]] * beats, (0, 0, 0, 0, 0, 0)))


class Words(unittest.TestCase):
    def setUp(self):
        # Two signs of one letter: the letter, and the letter of the beat before.
        self.code = base_code(Field(3), 1, 1)

    def test_the_first_word_that_fits(self):
        listener = Listener(self.code, 1, beats=3, slack=1)
        texts = [frame_text((beat, [1, 1] if 0 < beat < 3 else [1, 0] if beat == 0 else [0, 1]))
                 for beat in range(6)]
        self.assertEqual([listener.take(text) for text in (texts[3], texts[3], texts[4], texts[5], texts[1])],
                         ["kept", "twice", "far", "far", "kept"])
        listener.tick()
        self.assertEqual(listener.take(texts[0]), "kept")
        listener.tick()
        # Beat 0 is settled: late goes ahead of twice.
        self.assertEqual([listener.take(texts[0]), listener.take(texts[1]), listener.take(texts[2])],
                         ["late", "twice", "kept"])
        # Another frame of a beat that was kept is not kept.
        self.assertEqual(listener.take(frame_text((2, [2, 2]))), "twice")
        self.assertEqual(listener.take("2 2.2 0"), "spoilt")
        found = [listener.tick() for _ in range(3)]
        self.assertEqual(found, [(0, [1]), (1, [1]), (2, [1])])
        # Behind the last tick frames are still answered and counted.
        self.assertEqual([listener.take(text) for text in (texts[3], texts[4], None, texts[2])],
                         ["late", "far", "spoilt", "late"])
        check_same(self, state_of(listener), (5, [0, 0, 0, 0], [[1], [1], [1]], (4, 3, 3, 2, 3, 0)))
        with self.assertRaises(Ended):
            listener.tick()
        check_same(self, listener.clock, 5)

    def test_spoilt_texts(self):
        listener = Listener(self.code, 1, beats=3)
        for at, text in enumerate(NO_FRAMES):
            check_same(self, listener.take(text), "spoilt")
            check_same(self, listener.counts(), (0, 0, 0, at + 1, 0, 0))
        for text in ("0 1.0 1", "0 1.0 1"):
            listener.take(text=text)
        check_same(self, listener.counts(), (1, 0, 1, len(NO_FRAMES), 0, 0))
        # A far frame is far also where its signs are those of a beat ahead.
        self.assertEqual(listener.take("999 0.0 " + str(999 * 5 % 97)), "far")

    def test_a_frame_that_arrives_ahead_of_its_beat(self):
        listener = Listener(self.code, 1, beats=2)
        for text in reversed(send_all(self.code, 1, [[2], [1]])):
            self.assertEqual(listener.take(text), "kept")
        check_same(self, [listener.tick() for _ in range(3)], [None, (0, [2]), (1, [1])])

    def test_the_frame_must_be_kept_ahead_of_the_tick(self):
        texts = send_all(self.code, 1, [[2], [1]])
        listener = Listener(self.code, 1, beats=2)
        listener.tick()
        self.assertEqual(listener.take(texts[0]), "late")
        listener.take(texts[2])
        listener.tick()
        check_same(self, listener.settled(), [1, 1])
        check_same(self, listener.tick(), (1, [1]))
        check_same(self, listener.played(), [[None], [1]])


class Clashes(unittest.TestCase):
    def test_a_frame_that_clashes_counts_as_lost(self):
        code = base_code(Field(3), 1, 1)
        listener = Listener(code, 1, beats=3)
        for frame in ((0, [2, 0]), (1, [1, 1]), (2, [2, 1]), (3, [0, 2])):
            self.assertEqual(listener.take(frame_text(frame)), "kept")
        # Beat 1 says that letter 0 was 1; nothing of that frame is used, also not its own letter.
        found = [listener.tick() for _ in range(4)]
        check_same(self, found, [None, (0, [2]), (1, [1]), (2, [2])])
        check_same(self, listener.settled(), [0, 1, 0, 0])
        check_same(self, listener.counts(), (4, 0, 0, 0, 0, 1))

    def test_nothing_heard_before(self):
        # The second sign is of letters ahead of beat 0, which are known.
        listener = Listener(base_code(Field(2), 1, 1), 1, beats=1)
        listener.take(frame_text((0, [1, 1])))
        listener.take(frame_text((1, [0, 1])))
        check_same(self, [listener.tick(), listener.tick()], [None, (0, [1])])
        check_same(self, [listener.settled(), listener.counts()], [[1, 0], (2, 0, 0, 0, 0, 1)])

    def test_tail_letters_are_known(self):
        listener = Listener(base_code(Field(2), 1, 1), 1, beats=1)
        listener.take(frame_text((1, [1, 1])))
        check_same(self, [listener.tick(), listener.tick()], [None, (0, [None])])
        check_same(self, [listener.settled(), listener.counts()], [[1, 1], (1, 0, 0, 0, 0, 1)])

    def test_without_letters(self):
        code = TimeCode(Field(2), 0, 2, [[]])
        listener = Listener(code, 2, beats=2, slack=1)
        for frame in ((0, [0, 0]), (1, [0, 1]), (3, [1, 1])):
            self.assertEqual(listener.take(frame_text(frame)), "kept")
        check_same(self, [listener.tick() for _ in range(5)], [None, None, None, (0, []), (1, [])])
        check_same(self, state_of(listener), (5, [0, 1, 1, 1], [[], []], (3, 0, 0, 0, 0, 2)))
        check_same(self, play_line(code, 1, [[], []], [[0], [], []]), [[], []])


class Lines(unittest.TestCase):
    def test_lines_are_played_whole(self):
        numbers = Numbers(5)
        for setting in ((1, 2, 1, 1), (2, 3, 1, 2), (3, 5, 2, 3), (2, 4, 3, 3), (6, 7, 1, 6)):
            for size in (2, 9, 16):
                making = Making(Field(size), *setting)
                code, delay = making.code, making.delay
                for slack in (0, 4, 9):
                    rows = numbers.matrix(size, 20, code.letters)
                    lost = some_pattern(numbers, BurstRule(making.burst, delay), 20 + delay)
                    # Frames that are not lost come late by at most the slack, crossed and more than once.
                    arrivals = [[] if flag else [beat + numbers.below(slack + 1) for _ in range(1 + numbers.below(3))]
                                for beat, flag in enumerate(lost)]
                    check_same(self, play_line(code, delay, rows, arrivals, slack=slack), rows)
                    # A frame that comes one tick later than its slack is lost, like those that never come.
                    late = [[beat + slack + 1] if flag else clocks
                            for beat, (flag, clocks) in enumerate(zip(lost, arrivals))]
                    check_same(self, play_line(code, delay, rows, late, slack=slack), rows)

    def test_against_the_parts(self):
        numbers = Numbers(6)
        for _ in range(40):
            code = some_code(numbers, 3, 1, 2, 2)
            delay, beats, slack = 1 + numbers.below(3), numbers.below(7), numbers.below(3)
            rows = numbers.matrix(3, beats, 1)
            arrivals = [numbers.row(14, numbers.below(3)) for _ in range(beats + delay)]
            texts = send_all(code, delay, rows)
            listener = Listener(code, delay, beats=beats, slack=slack)
            for coming in deliver(texts, arrivals, beats + delay + slack):
                for text in coming:
                    listener.take(text)
                listener.tick()
            check_same(self, play_line(code, delay, rows, arrivals, slack=slack), listener.played())
            due = [[None if value is None else rows[beat][0] for value in row]
                   for beat, row in enumerate(listener.played())]
            check_same(self, listener.played(), due)

    def test_without_a_slack(self):
        clear = TimeCode(Field(3), 1, 1, [[[1]]])
        for slack, due in ((0, [[1], [None]]), (1, [[1], [2]])):
            arrivals = [[0], [2], []]
            check_same(self, play_line(clear, 1, [[1], [2]], arrivals, slack=slack), due)
        check_same(self, play_line(clear, 1, [[1], [2]], arrivals), [[1], [None]])
        listener = Listener(clear, 1, beats=2)
        self.assertEqual(sum(1 for _ in range(3) if listener.tick()), 2)
        check_error(self, Ended, None, listener.tick)

    def test_no_rows_at_all(self):
        code = base_code(Field(2), 1, 1)
        check_same(self, play_line(code, 6, [], [[] for _ in range(6)]), [])
        check_same(self, play_line(code, 1, [], [[0]], slack=9), [])
        listener = Listener(code, 1, beats=0)
        self.assertEqual([listener.take("0 0.0 0"), listener.take("1 0.0 5")], ["kept", "far"])
        self.assertIsNone(listener.tick())
        check_same(self, state_of(listener), (1, [0], [], (1, 0, 0, 0, 1, 0)))
        check_error(self, Ended, None, listener.tick)

    def test_most_beats(self):
        numbers = Numbers(3)
        code = base_code(Field(16), 6, 6)
        rows = numbers.matrix(16, 54, 6)
        arrivals = [[beat + 9] if beat % 12 >= 6 else [] for beat in range(60)]
        check_same(self, play_line(code, 6, rows, arrivals, slack=9), rows)

    def test_every_field(self):
        for size in SIZES:
            rows = Numbers(size).matrix(size, 6, 1)
            arrivals = [[0, 2], [], [2], [7], [4], [5], [6]]
            check_same(self, play_line(base_code(Field(size), 1, 1), 1, rows, arrivals), rows)


class Checks(unittest.TestCase):
    def setUp(self):
        self.code = base_code(Field(3), 1, 1)

    def test_listener(self):
        for value, error in bad_numbers(1, 6):
            check_error(self, error, "delay", Listener, self.code, value, beats=None, slack=None)
        for value, error in bad_numbers(0, 54):
            check_error(self, error, "beats", Listener, self.code, 1, beats=value, slack=None)
        for value, error in bad_numbers(0, 9):
            check_error(self, error, "slack", Listener, self.code, 1, slack=value, beats=3)
        with self.assertRaises(TypeError):
            Listener(self.code, 1, 3)
        listener = Listener(code=self.code, delay=1, beats=3)
        with self.assertRaises(AttributeError):
            listener.clock = 1
        check_same(self, state_of(listener), (0, [], [], (0, 0, 0, 0, 0, 0)))

    def test_play_line(self):
        rows, arrivals = [[1], [2]], [[0], [1, 5], []]
        bad_arrivals = [(value, BadShape) for value in NO_LISTS] + [
            (tuple(arrivals), BadShape), (arrivals[:2], BadShape), (arrivals + [[]], BadShape),
            ([[0], [1], None], BadShape), ([[None], [1], (0,)], BadShape), ([[1000], [0] * 21, []], BadShape)]
        bad_arrivals += [([[0], [1, value], []], BadElement) for value in bad_entries(1000)]
        good = {"code": self.code, "delay": 1, "rows": rows, "arrivals": arrivals, "slack": 2}
        check_errors(self, lambda code, delay, rows, arrivals, slack: play_line(code, delay, rows, arrivals,
                                                                                slack=slack),
                     good, {"delay": bad_numbers(1, 6), "rows": bad_matrices(3, rows, most=54),
                            "arrivals": bad_arrivals, "slack": bad_numbers(0, 9)})
        del good["slack"]
        check_same(self, check_answer(self, play_line, good, {"slack": 2}), [[1], [2]])
        check_same(self, play_line(self.code, 1, rows, [[0] * 20, [999], [2]]), [[1], [2]])
        with self.assertRaises(TypeError):
            play_line(self.code, 1, rows, arrivals, 2)
        check_error(self, BadNumber, "delay", play_line, self.code, 0, None, None, slack=None)


class Copies(unittest.TestCase):
    def test_answers_are_new(self):
        code = base_code(Field(3), 2, 2)
        listener = Listener(code, 2, beats=4)
        for text in send_all(code, 2, [[1, 2], [2, 2], [0, 1], [1, 1]]):
            listener.take(text)
        listener.tick()
        listener.tick()
        found = listener.tick()
        kept = copy.deepcopy(state_of(listener))
        check_same(self, found, (0, [1, 2]))
        spoil(found)
        spoil(state_of(listener))
        check_same(self, state_of(listener), kept)
        check_answer(self, listener.played, {})
        check_answer(self, listener.settled, {})
        check_same(self, listener.tick(), (1, [2, 2]))

    def test_two_listeners_do_not_share(self):
        code = base_code(Field(3), 1, 1)
        one, other = Listener(code, 1, beats=2), Listener(code, 1, beats=2)
        one.take(frame_text((0, [1, 0])))
        one.tick()
        check_same(self, state_of(other), (0, [], [], (0, 0, 0, 0, 0, 0)))
        self.assertEqual(other.take(frame_text((0, [1, 0]))), "kept")

    def test_a_tick_that_raises_changes_nothing(self):
        code = base_code(Field(3), 1, 1)
        listener = Listener(code, 1, beats=1)
        listener.tick()
        listener.tick()
        before = state_of(listener)
        for _ in range(3):
            check_error(self, Ended, None, listener.tick)
        check_same(self, state_of(listener), before)


if __name__ == "__main__":
    unittest.main()
