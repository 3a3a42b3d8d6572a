import copy
import itertools
import unittest

from mendsontime.burstmake import Making, base_code
from mendsontime.errors import BadElement, BadNumber, BadShape, Clash, Ended, MendError, TooLarge
from mendsontime.field import Field
from mendsontime.mender import Mender, is_log, plain_log, run_mender
from mendsontime.reason import told_beats
from mendsontime.rules import BurstRule
from mendsontime.timecode import TimeCode

from helping import (
    NO_LISTS, NO_NUMBERS, ODD_PAPERS, SIZES, Numbers, alike, all_streams, bad_entries, bad_numbers, bad_rows,
    check_answer, check_error, check_errors, check_papers, check_same, plain_heard, plain_signs, some_pattern, spoil,
)


def some_code(numbers, size, letters, signs, memory):
    """A code with many zeros among its taps, so that letters are often late or not determined."""
    taps = [[[numbers.below(size) * numbers.below(2) for _ in range(signs)] for _ in range(letters)]
            for _ in range(memory + 1)]
    return TimeCode(Field(size), letters, signs, taps)


def small_codes(many):
    numbers = Numbers(many)
    for _ in range(many):
        size, letters = ((2, 1), (2, 2), (3, 1), (4, 1), (2, 1), (5, 1))[numbers.below(6)]
        yield some_code(numbers, size, letters, 1 + numbers.below(3), numbers.below(5))


def streams_with(code, heard, letter_beats):
    """For 0 and each further beat, the streams of so many rows that give all signs heard ahead of it."""
    left = all_streams(code.field.size, code.letters, letter_beats)
    found = [left]
    for beat, row in enumerate(heard):
        if row is not None:
            left = [rows for rows in left if plain_signs(code, rows, beat) == row]
        found.append(left)
    return found


def plain_run(code, delay, heard, tail):
    """What is told at each beat, by all streams; or the first beat at which no stream is left."""
    letter_beats = len(heard) - tail
    left = streams_with(code, heard, letter_beats)
    if not left[-1]:
        return next(beat for beat in range(len(heard)) if not left[beat + 1])
    told, done = [], set()
    for at in range(len(heard)):
        fresh = []
        for beat, place in itertools.product(range(min(at + 1, letter_beats)), range(code.letters)):
            values = {rows[beat][place] for rows in left[at + 1]}
            if (beat, place) not in done and (len(values) == 1 or beat + delay == at):
                done.add((beat, place))
                fresh.append((beat, place, values.pop() if len(values) == 1 else None))
        told.append(fresh)
    return told


def plain_state(code, told, letter_beats):
    """The log, the mended rows and the open letters after these beats."""
    log = [(beat, place, value, at) for at, fresh in enumerate(told) for beat, place, value in fresh]
    values = {(beat, place): value for beat, place, value, _ in log}
    rows = [[values.get((beat, place)) for place in range(code.letters)] for beat in range(letter_beats)]
    left = [(beat, place) for beat in range(letter_beats) for place in range(code.letters)
            if (beat, place) not in values]
    return log, rows, left


def state_of(mender):
    return mender.beat, mender.log(), mender.mended(), mender.open_letters()


def take(mender, row, tail):
    return mender.lose(tail=tail) if row is None else mender.hear(row, tail=tail)


def some_runs():
    """Codes, delays, heard rows and tails: streams that were sent, with all kinds of losses."""
    numbers = Numbers(31)
    for code in small_codes(160):
        size = code.field.size
        beats = {2: 6, 3: 5, 4: 4, 5: 4}[size] if code.letters == 1 else 4
        tail = numbers.below(4)
        delay = 1 + numbers.below(4)
        letter_beats = max(0, beats - tail) if numbers.below(4) else beats
        total = letter_beats + tail
        rows = numbers.matrix(size, letter_beats, code.letters)
        pattern = [int(numbers.below(5) < 2) for _ in range(total)]
        yield code, delay, plain_heard(code, rows, pattern), tail


def wild_runs():
    """Heard rows that mostly come from no stream."""
    numbers = Numbers(77)
    for code in small_codes(160):
        size, beats = code.field.size, 4
        heard = [None if numbers.below(4) == 0 else numbers.row(size, code.signs) for _ in range(beats)]
        yield code, 1 + numbers.below(3), heard, numbers.below(beats + 1)


class PlainMeaning(unittest.TestCase):
    def test_each_beat_against_all_streams(self):
        late = lost = 0
        for code, delay, heard, tail in some_runs():
            due = plain_run(code, delay, heard, tail)
            mender = Mender(code, delay)
            letter_beats = len(heard) - tail
            for at, row in enumerate(heard):
                found = take(mender, row, at >= letter_beats)
                check_same(self, found, due[at])
                log, rows, left = plain_state(code, due[:at + 1], min(at + 1, letter_beats))
                check_same(self, state_of(mender), (at + 1, log, rows, left))
                check_same(self, list(mender), log)
                self.assertEqual(len(log) + len(left), code.letters * min(at + 1, letter_beats))
            late += sum(value is not None and at > beat for beat, _, value, at in mender.log())
            lost += sum(value is None for _, _, value, _ in mender.log())
            check_same(self, plain_log(code, delay, heard, tail=tail), mender.log())
            self.assertIs(is_log(code, delay, heard, tail, mender.log()), True)
        self.assertGreater(late, 50)
        self.assertGreater(lost, 50)

    def test_clashes_against_all_streams(self):
        clashes = 0
        for code, delay, heard, tail in wild_runs():
            due = plain_run(code, delay, heard, tail)
            if type(due) is int:
                clashes += 1
                for function in (run_mender, plain_log):
                    with self.assertRaises(Clash) as caught:
                        function(code, delay, heard, tail=tail)
                    check_same(self, caught.exception.moment, due)
                for paper in ([], None, ODD_PAPERS[-1]):
                    with self.assertRaises(Clash) as caught:
                        is_log(code, delay, heard, tail, paper)
                    check_same(self, caught.exception.moment, due)
            else:
                log, rows, left = plain_state(code, due, len(heard) - tail)
                check_same(self, state_of(run_mender(code, delay, heard, tail=tail)), (len(heard), log, rows, left))
                check_same(self, plain_log(code, delay, heard, tail=tail), log)
        self.assertGreater(clashes, 40)

    def test_first_beats_against_the_facts(self):
        # Without a tail, `told_beats` tells by which beat a letter is determined at all.
        numbers = Numbers(3)
        for code in small_codes(40):
            pattern = [int(numbers.below(5) < 2) for _ in range(18)]
            heard = plain_heard(code, numbers.matrix(code.field.size, 18, code.letters), pattern)
            moments = told_beats(code, pattern)
            for delay in (1, 2, 4, 6):
                due = {}
                for beat, place in itertools.product(range(18), range(code.letters)):
                    moment = moments[beat][place]
                    if moment is not None and moment <= beat + delay:
                        due[(beat, place)] = (moment, False)
                    elif beat + delay < 18:
                        due[(beat, place)] = (beat + delay, True)
                found = {(beat, place): (at, value is None)
                         for beat, place, value, at in run_mender(code, delay, heard).log()}
                self.assertEqual(found, due)

    def test_old_equations_count(self):
        # Every sign is the letter plus the letter of four beats ago; the first one is heard long before.
        code = TimeCode(Field(3), 1, 1, [[[1]], [[0]], [[0]], [[0]], [[1]]])
        rows = [[2], [1], [0], [2], [1], [1], [2], [0], [1], [2], [0], [1]]
        for lost in ([0], [3, 5], [0, 4, 8]):
            pattern = [int(beat in lost) for beat in range(12)]
            heard = plain_heard(code, rows, pattern)
            due = plain_run(code, 1, heard[:7], 0)
            check_same(self, run_mender(code, 1, heard[:7]).log(), plain_state(code, due, 7)[0])
        # A letter told lost is determined later; it is not told, and its equation helps the letters behind it.
        code = TimeCode(Field(2), 1, 2, [[[1, 0]], [[0, 0]], [[0, 1]]])
        mender = Mender(code, 1)
        check_same(self, [mender.lose(), mender.hear([1, 0])], [[], [(0, 0, None), (1, 0, 1)]])
        check_same(self, mender.hear([0, 1]), [(2, 0, 0)])
        check_same(self, mender.mended(), [[None], [1], [0]])
        code = TimeCode(Field(2), 1, 1, [[[1]], [[1]]])
        mender = Mender(code, 1)
        check_same(self, [mender.lose(), mender.hear([1]), mender.hear([0])],
                   [[], [(0, 0, None)], [(1, 0, None)]])
        # The tail tells the last letter, and with it all that were told lost; none is told again.
        check_same(self, mender.hear([1], tail=True), [(2, 0, 1)])
        check_same(self, mender.hear([0], tail=True), [])
        check_same(self, mender.mended(), [[None], [None], [1]])

    def test_long_runs_against_all_facts(self):
        numbers = Numbers(8)
        for size, letters, signs, memory, beats in ((2, 3, 3, 5, 60), (16, 2, 2, 12, 40), (3, 3, 2, 2, 50),
                                                    (9, 1, 1, 12, 60), (5, 4, 5, 1, 50), (2, 12, 12, 3, 16)):
            for delay in (1, 4, 6):
                code = some_code(numbers, size, letters, signs, memory)
                tail = numbers.below(9)
                rows = numbers.matrix(size, beats - tail, letters)
                pattern = [int(numbers.below(4) == 0) for _ in range(beats)]
                heard = plain_heard(code, rows, pattern)
                mender = run_mender(code, delay, heard, tail=tail)
                log = plain_log(code, delay, heard, tail=tail)
                check_same(self, mender.log(), log)
                for beat, place, value, _ in log:
                    self.assertIn(value, (None, rows[beat][place]))
                told = {(beat, place) for beat, place, _, _ in log}
                self.assertEqual(len(told), len(log))
                self.assertEqual(len(told) + len(mender.open_letters()), letters * (beats - tail))

    def test_makings_are_mended_in_time(self):
        numbers = Numbers(4)
        for setting in ((1, 2, 1, 1), (2, 3, 1, 2), (3, 5, 2, 3), (1, 3, 2, 2), (2, 4, 3, 3), (6, 7, 1, 6),
                        (2, 2, 0, 1)):
            for size in (2, 3, 16):
                making = Making(Field(size), *setting)
                code, delay = making.code, making.delay
                rows = numbers.matrix(size, 30, code.letters)
                pattern = some_pattern(numbers, BurstRule(making.burst, delay), 30 + delay)
                mender = run_mender(code, delay, plain_heard(code, rows, pattern), tail=delay)
                check_same(self, mender.mended(), rows)
                check_same(self, mender.open_letters(), [])
                self.assertTrue(all(value is not None and at <= beat + delay for beat, _, value, at in mender.log()))

    def test_every_field(self):
        for size in SIZES:
            numbers = Numbers(size)
            code = TimeCode(Field(size), 2, 3, [numbers.matrix(size, 2, 3) for _ in range(3)])
            rows = numbers.matrix(size, 12, 2)
            heard = plain_heard(code, rows, [int(beat % 5 == 2) for beat in range(14)])
            mender = run_mender(code, 3, heard, tail=2)
            check_same(self, mender.log(), plain_log(code, 3, heard, tail=2))
            for row, due in zip(mender.mended(), rows, strict=True):
                for value, letter in zip(row, due, strict=True):
                    self.assertIn(value, (None, letter))

    def test_the_example(self):
        mender = Mender(base_code(Field(3), 1, 1), 1)
        check_same(self, [mender.lose(), mender.hear([2, 1]), mender.hear([0, 2], tail=False)],
                   [[], [(0, 0, 1), (1, 0, 2)], [(2, 0, 0)]])
        check_same(self, mender.log(), [(0, 0, 1, 1), (1, 0, 2, 1), (2, 0, 0, 2)])

    def test_told_and_lost_stand_mixed(self):
        # The first letter of each beat is sent, the second one only two beats later.
        code = TimeCode(Field(5), 2, 2, [[[1, 0], [0, 0]], [[0, 0], [0, 0]], [[0, 0], [0, 1]]])
        mender = Mender(code, 2)
        check_same(self, [mender.lose(), mender.hear([3, 0]), mender.hear([4, 2]), mender.lose(), mender.hear([1, 4])],
                   [[], [(1, 0, 3)], [(0, 0, None), (0, 1, 2), (2, 0, 4)], [(1, 1, None)], [(2, 1, 4), (4, 0, 1)]])
        check_same(self, mender.open_letters(), [(3, 0), (3, 1), (4, 1)])
        check_same(self, mender.mended(), [[None, 2], [3, None], [4, 4], [None, None], [1, None]])


class Tails(unittest.TestCase):
    def test_tail_letters_are_known(self):
        code = TimeCode(Field(2), 1, 1, [[[1]], [[1]]])
        for tail in (False, True):
            mender = Mender(code, 1)
            mender.lose()
            check_same(self, mender.hear([1], tail=tail), [(0, 0, 1)] if tail else [(0, 0, None)])
            check_same(self, len(mender.mended()), 1 if tail else 2)
        # Also a lost tail beat has known letters.
        mender = Mender(TimeCode(Field(2), 1, 1, [[[1]], [[1]], [[1]]]), 2)
        mender.lose()
        mender.lose(tail=True)
        check_same(self, mender.hear([1], tail=True), [(0, 0, 1)])
        check_same(self, [mender.beat, mender.mended(), mender.open_letters()], [3, [[1]], []])

    def test_only_tail_beats(self):
        code = TimeCode(Field(3), 2, 1, [[[1], [2]], [[1], [0]]])
        mender = Mender(code, 1)
        check_same(self, [mender.hear([0], tail=True), mender.lose(tail=True)], [[], []])
        check_same(self, state_of(mender), (2, [], [], []))
        with self.assertRaises(Clash) as caught:
            mender.hear([1], tail=True)
        self.assertEqual(caught.exception.moment, 2)
        check_same(self, run_mender(code, 1, [[0], None], tail=2).mended(), [])
        check_same(self, plain_log(code, 1, [[0], None], tail=2), [])

    def test_letters_are_told_lost_in_a_long_tail(self):
        code = TimeCode(Field(2), 1, 1, [[[1]]])
        mender = Mender(code, 6)
        mender.lose()
        for _ in range(5):
            check_same(self, mender.hear([0], tail=True), [])
        check_same(self, mender.open_letters(), [(0, 0)])
        check_same(self, mender.lose(tail=True), [(0, 0, None)])
        check_same(self, mender.log(), [(0, 0, None, 6)])

    def test_a_tail_beat_that_raised_was_not_taken(self):
        code = TimeCode(Field(2), 1, 1, [[[1]]])
        mender = Mender(code, 1)
        with self.assertRaises(Clash):
            mender.hear([1], tail=True)
        check_same(self, mender.hear([1]), [(0, 0, 1)])
        mender.lose(tail=True)
        with self.assertRaises(Ended):
            mender.lose()


class Clashes(unittest.TestCase):
    def test_nothing_changes(self):
        numbers = Numbers(15)
        tried = 0
        for code, delay, heard, tail in some_runs():
            letter_beats = len(heard) - tail
            one, other = Mender(code, delay), Mender(code, delay)
            for at, row in enumerate(heard):
                for signs in [numbers.row(code.field.size, code.signs) for _ in range(3)]:
                    for in_tail in {True, at >= letter_beats}:
                        if streams_with(code, heard[:at] + [signs], min(at + (not in_tail), letter_beats + 1))[-1]:
                            continue
                        before = state_of(one)
                        with self.assertRaises(Clash) as caught:
                            one.hear(signs, tail=in_tail)
                        check_same(self, caught.exception.moment, at)
                        check_same(self, state_of(one), before)
                        tried += 1
                check_same(self, take(one, row, at >= letter_beats), take(other, row, at >= letter_beats))
            check_same(self, state_of(one), state_of(other))
        self.assertGreater(tried, 300)

    def test_the_beat_may_be_lost_behind_a_clash(self):
        code = TimeCode(Field(3), 1, 2, [[[1, 1]], [[0, 1]]])
        mender = Mender(code, 2)
        mender.hear([2, 2])
        with self.assertRaises(Clash) as caught:
            mender.hear([1, 1])
        self.assertEqual(caught.exception.moment, 1)
        check_same(self, mender.lose(), [])
        # Nothing of the signs that clashed is used: beat 1 is told by beat 2 alone.
        check_same(self, mender.hear([0, 1]), [(1, 0, 1), (2, 0, 0)])

    def test_the_first_of_several_signs_is_not_kept(self):
        # The first sign fits, the second one clashes; nothing of the first one stays.
        code = TimeCode(Field(2), 2, 2, [[[1, 0], [0, 0]], [[0, 1], [0, 0]]])
        mender = Mender(code, 1)
        mender.hear([0, 0])
        with self.assertRaises(Clash):
            mender.hear([1, 1])
        check_same(self, mender.hear([0, 0]), [(0, 1, None), (1, 0, 0)])

    def test_without_letters(self):
        code = TimeCode(Field(3), 0, 2, [[]])
        mender = Mender(code, 1)
        for signs in ([1, 0], [0, 2], [1, 1]):
            for tail in (False, True):
                with self.assertRaises(Clash) as caught:
                    mender.hear(signs, tail=tail)
                self.assertEqual(caught.exception.moment, 0)
        check_same(self, [mender.hear([0, 0]), mender.lose(), mender.hear([0, 0], tail=True)], [[], [], []])
        check_same(self, state_of(mender), (3, [], [[], []], []))
        with self.assertRaises(Clash) as caught:
            mender.hear([0, 1], tail=True)
        self.assertEqual(caught.exception.moment, 3)
        check_same(self, run_mender(code, 6, [[0, 0]] * 60).mended(), [[] for _ in range(60)])
        check_same(self, plain_log(code, 6, [[0, 0], None] * 30, tail=60), [])
        self.assertIs(is_log(code, 6, [[0, 0]] * 60, 0, []), True)
        with self.assertRaises(Clash) as caught:
            plain_log(code, 1, [[0, 0], [0, 1], [1, 1]])
        self.assertEqual(caught.exception.moment, 1)


class Ends(unittest.TestCase):
    def setUp(self):
        self.code = TimeCode(Field(3), 1, 2, [[[1, 0]], [[0, 1]]])

    def test_sixty_beats(self):
        mender = Mender(self.code, 1)
        for beat in range(60):
            take(mender, None if beat % 3 == 0 else [0, 0], beat >= 55)
        before = state_of(mender)
        # The state goes ahead of every argument.
        for call in (lambda: mender.hear([0, 0]), lambda: mender.lose(), lambda: mender.lose(tail=True),
                     lambda: mender.hear([0, 0], tail=True), lambda: mender.hear(None),
                     lambda: mender.hear([9], tail=3), lambda: mender.lose(tail=None),
                     lambda: mender.hear([1, 1], tail=True)):
            check_error(self, Ended, None, call)
        check_same(self, state_of(mender), before)
        self.assertEqual(mender.beat, 60)

    def test_a_letter_beat_behind_a_tail_beat(self):
        for end in (lambda mender: mender.lose(tail=True), lambda mender: mender.hear([0, 1], tail=True)):
            mender = Mender(self.code, 1)
            mender.hear([1, 0])
            end(mender)
            before = state_of(mender)
            check_error(self, Ended, None, mender.lose)
            check_error(self, Ended, None, mender.lose, tail=False)
            check_error(self, Ended, None, mender.hear, [0, 0])
            # The state is asked behind the arguments here, and ahead of a clash.
            check_error(self, Ended, None, mender.hear, [2, 2], tail=False)
            for value, error in bad_rows(3, [0, 0]):
                check_error(self, error, "signs", mender.hear, value)
            for value in NO_NUMBERS[2:] + (0, 1):
                check_error(self, BadNumber, "tail", mender.lose, tail=value)
                check_error(self, BadNumber, "tail", mender.hear, [2, 2], tail=value)
            check_same(self, state_of(mender), before)
            mender.lose(tail=True)

    def test_no_beats_at_all(self):
        mender = Mender(self.code, 3)
        check_same(self, state_of(mender), (0, [], [], []))
        check_same(self, list(mender), [])
        check_same(self, state_of(run_mender(self.code, 3, [])), (0, [], [], []))
        check_same(self, plain_log(self.code, 3, [], tail=0), [])
        self.assertIs(is_log(self.code, 3, [], 0, []), True)
        self.assertIs(is_log(self.code, 3, [], 0, ()), False)


class Checks(unittest.TestCase):
    def setUp(self):
        self.code = base_code(Field(3), 1, 1)
        self.heard = plain_heard(self.code, [[1], [2], [0], [0]], [1, 0, 0, 0])

    def bad_heard(self):
        good = self.heard
        found = [(value, BadShape) for value in NO_LISTS]
        found += [(tuple(good), BadShape), ([None] * 61, BadShape), ([[5, 5]] * 61, BadShape)]
        for wrong in (0, "ab", False, (0, 0), [0], [0, 0, 0], {}, []):
            found.append((good[:1] + [wrong] + good[2:], BadShape))
        found.append(([[3, 3], None, [0]], BadShape))
        for value in bad_entries(3):
            found.append((good[:2] + [[0, value]], BadElement))
        return found

    def test_delay(self):
        for value, error in bad_numbers(1, 6):
            check_error(self, error, "delay", Mender, self.code, value)
            check_error(self, error, "delay", Mender, code=self.code, delay=value)

    def test_hear_and_lose(self):
        mender = Mender(self.code, 1)
        mender.hear([2, 0])
        for value, error in bad_rows(3, [2, 1]):
            check_error(self, error, "signs", mender.hear, value)
            check_error(self, error, "signs", mender.hear, signs=value, tail=2)
        for value in NO_NUMBERS[2:] + (0, 1, -1):
            check_error(self, BadNumber, "tail", mender.hear, [1, 1], tail=value)
            check_error(self, BadNumber, "tail", mender.hear, [1, 2], tail=value)
            check_error(self, BadNumber, "tail", mender.lose, tail=value)
        check_same(self, state_of(mender), (1, [(0, 0, 2, 0)], [[2]], []))
        with self.assertRaises(AttributeError):
            mender.beat = 0
        with self.assertRaises(TypeError):
            mender.hear([1, 2], False)
        with self.assertRaises(TypeError):
            mender.lose(True)

    def test_functions(self):
        good = {"code": self.code, "delay": 1, "heard": self.heard, "tail": 1}
        bad = {"delay": bad_numbers(1, 6), "heard": self.bad_heard(), "tail": bad_numbers(0, 4)}
        for function in (run_mender, plain_log):
            check_errors(self, lambda code, delay, heard, tail: function(code, delay, heard, tail=tail), good, bad)
        check_errors(self, lambda code, delay, heard, tail: is_log(code, delay, heard, tail, None), good, bad)
        due = run_mender(self.code, 1, self.heard, tail=1).log()
        check_same(self, due, [(0, 0, 1, 1), (1, 0, 2, 1), (2, 0, 0, 2)])
        passed = {"code": self.code, "delay": 1, "heard": self.heard}
        check_same(self, check_answer(self, plain_log, passed, {"tail": 1}), due)
        self.assertIs(is_log(code=self.code, delay=1, heard=self.heard, tail=1, paper=due), True)
        for tail in (0, 1, 2, 3):
            check_same(self, run_mender(self.code, 1, self.heard[:1] + [[0, 0]] * 3, tail=tail).mended()[1:],
                       [[0]] * (3 - tail))
        with self.assertRaises(TypeError):
            is_log(self.code, 1, self.heard, paper=due)

    def test_too_large(self):
        # The size goes ahead of a clash, and behind the arguments; tail beats count.
        for letters, beats, due in ((4, 50, False), (4, 51, True), (12, 16, False), (12, 17, True), (3, 60, False),
                                    (5, 40, False), (5, 41, True)):
            code = TimeCode(Field(2), letters, 1, [[[0]] * letters])
            for tail in (0, beats):
                clashing = [[0]] * (beats - 1) + [[1]]
                for heard in ([None] * beats, clashing):
                    for call in (lambda: plain_log(code, 1, heard, tail=tail),
                                 lambda: is_log(code, 1, heard, tail, None)):
                        if due:
                            with self.assertRaises(TooLarge) as caught:
                                call()
                            check_same(self, caught.exception.bound, 200)
                        elif heard is clashing:
                            with self.assertRaises(Clash) as caught:
                                call()
                            check_same(self, caught.exception.moment, beats - 1)
                        else:
                            call()
            for value, error in bad_numbers(0, beats):
                check_error(self, error, "tail", plain_log, code, 1, [None] * beats, tail=value)
            run_mender(code, 1, [None] * beats)


class Logs(unittest.TestCase):
    def test_papers(self):
        code = TimeCode(Field(3), 2, 2, [[[1, 0], [0, 1]], [[0, 1], [0, 0]]])
        heard = plain_heard(code, [[1, 2], [0, 1], [2, 0]], [1, 0, 0])
        due = plain_log(code, 1, heard)
        # Of letters 0 of beat 0 and 1 of beat 1 only the sum is heard.
        check_same(self, due, [(0, 0, None, 1), (0, 1, None, 1), (1, 0, 0, 1), (1, 1, None, 2), (2, 0, 2, 2),
                               (2, 1, 0, 2)])
        wrong = [tuple(due), due[::-1], due[1:], due[:-1], due + due[-1:], due + [(3, 1, None, 3)],
                 [list(entry) for entry in due], [due], due[:2] + [(1, 0, False, True)] + due[3:],
                 due[:2] + [(1, 0, False, 1)] + due[3:], [(0, 0, None, True)] + due[1:],
                 [(False, 0, None, 1)] + due[1:],
                 [(0, 0, 1, 1)] + due[1:], due[:2] + [(1, 0, None, 1)] + due[3:], due[:2] + [(1, 0, 0, 2)] + due[3:],
                 [(0, 0, "-", 1)] + due[1:], [(0, 0, None)] + due[1:], [due[1], due[0]] + due[2:], []]
        check_papers(self, is_log, (code, 1, heard, 0), [due], wrong)
        check_papers(self, is_log, (code, 1, heard[:1], 0), [[]], [()])
        check_papers(self, is_log, (code, 1, heard[:1] + [[0, 0]], 1), [[(0, 0, 0, 1), (0, 1, None, 1)]], [due])

    def test_changed_logs(self):
        for code, delay, heard, tail in itertools.islice(some_runs(), 60):
            due = plain_log(code, delay, heard, tail=tail)
            for at, entry in enumerate(due):
                for place in range(4):
                    for value in (None, 0, 1, True, (entry[place] or 0) + 1):
                        changed = entry[:place] + (value,) + entry[place + 1:]
                        paper = due[:at] + [changed] + due[at + 1:]
                        self.assertIs(is_log(code, delay, heard, tail, paper), alike(changed, entry))


class Copies(unittest.TestCase):
    def setUp(self):
        self.code = TimeCode(Field(3), 2, 2, [[[1, 0], [0, 1]], [[0, 1], [1, 0]]])

    def test_answers_are_new(self):
        mender = Mender(self.code, 2)
        signs = [2, 1]
        first = mender.hear(signs)
        check_same(self, signs, [2, 1])
        signs[0] = 0
        mender.lose()
        kept = copy.deepcopy(state_of(mender))
        spoil(first)
        spoil(state_of(mender))
        spoil(list(mender))
        check_same(self, state_of(mender), kept)
        self.assertEqual(len(set(map(id, mender.mended()))), 2)
        check_answer(self, mender.log, {})
        check_answer(self, mender.mended, {})
        check_answer(self, mender.open_letters, {})

    def test_two_menders_do_not_share(self):
        one, other = Mender(self.code, 2), Mender(self.code, 2)
        one.hear([2, 1])
        check_same(self, state_of(other), (0, [], [], []))
        other.lose()
        check_same(self, state_of(one), (1, [(0, 0, 2, 0), (0, 1, 1, 0)], [[2, 1]], []))
        check_same(self, other.open_letters(), [(0, 0), (0, 1)])

    def test_heard_is_not_kept(self):
        row = [2, 1]
        heard = [row, None, row]
        with self.assertRaises(MendError):
            run_mender(self.code, 1, heard + [[0, 3]])
        mender = run_mender(self.code, 1, [row])
        kept = mender.log()
        row[0] = 0
        check_same(self, mender.log(), kept)
        check_same(self, heard, [[0, 1], None, [0, 1]])


if __name__ == "__main__":
    unittest.main()
