import copy
import fractions
import itertools
import unittest

from mendsontime.burstmake import Making, base_code
from mendsontime.errors import BadElement, BadNumber, BadShape
from mendsontime.field import Field
from mendsontime.relay import best_by_all, best_deal, deal_share, deals, is_best_deal, run_chain
from mendsontime.rules import BurstRule
from mendsontime.timecode import TimeCode

from helping import (
    NO_LISTS, NO_NUMBERS, ODD_PAPERS, SIZES, Numbers, bad_entries, bad_matrices, bad_numbers, check_answer,
    check_error, check_errors, check_papers, check_same, plain_signs, some_pattern,
)
from test_mender import plain_run, some_code

BURSTS = [list(bursts) for many in (1, 2, 3) for bursts in itertools.product(range(7), repeat=many)]
SOME_BURSTS = BURSTS[:56] + BURSTS[56::9]


def plain_deals(bursts, total):
    """All deals, by trying all lists of delays."""
    return [list(delays) for delays in itertools.product(range(1, 7), repeat=len(bursts))
            if sum(delays) <= total and all(delay >= burst for delay, burst in zip(delays, bursts))]


def plain_share(bursts, delays):
    return min(fractions.Fraction(delay, delay + burst) for delay, burst in zip(delays, bursts))


def pair(share):
    return share.numerator, share.denominator


def bad_number_lists(good, low, high, *, lengths):
    """Pairs of a wrong list of numbers and its error."""
    found = [(value, BadShape) for value in NO_LISTS] + [(tuple(good), BadShape)]
    found += [([good[0]] * length, BadShape) for length in lengths]
    found += [([None] * length, BadShape) for length in lengths if length]
    for at in range(len(good)):
        for value in list(NO_NUMBERS) + [low - 1, high + 1, 10 ** 30]:
            found.append((good[:at] + [value] + good[at + 1:], BadNumber))
    return found


BAD_BURSTS = bad_number_lists([2, 3], 0, 6, lengths=(0, 4))


class Deals(unittest.TestCase):
    def test_all_deals(self):
        for bursts in SOME_BURSTS:
            for total in range(1, 19):
                check_same(self, deals(bursts, total), plain_deals(bursts, total))
        check_same(self, deals([6, 6, 6], 18), [[6, 6, 6]])
        check_same(self, deals([6, 6, 6], 17), [])
        check_same(self, deals([0], 1), [[1]])
        check_same(self, deals([0, 1], 3), [[1, 1], [1, 2], [2, 1]])
        check_same(self, deals([2], 18), [[2], [3], [4], [5], [6]])

    def test_shares(self):
        for bursts in SOME_BURSTS[::3]:
            for delays in plain_deals(bursts, 18)[::5]:
                check_same(self, deal_share(bursts, delays), pair(plain_share(bursts, delays)))
        check_same(self, [deal_share([0], [3]), deal_share([2, 0], [4, 1]), deal_share([6, 6], [6, 6])],
                   [(1, 1), (2, 3), (1, 2)])

    def test_the_best_ones_against_all(self):
        for bursts in SOME_BURSTS:
            for total in range(1, 19):
                tried = plain_deals(bursts, total)
                if not tried:
                    self.assertIsNone(best_deal(bursts, total))
                    self.assertIsNone(best_by_all(bursts, total))
                    continue
                most = max(plain_share(bursts, delays) for delays in tried)
                best = [delays for delays in tried if plain_share(bursts, delays) == most]
                check_same(self, best_deal(bursts, total), best[0])
                check_same(self, best_by_all(bursts, total), (pair(most), best[0]))
                # Every delay of the first one is the least of any best deal.
                self.assertEqual(best[0], [min(delays[at] for delays in best) for at in range(len(bursts))])

    def test_the_judge_against_all(self):
        for bursts in SOME_BURSTS[::4]:
            for total in (1, 2, 4, 7, 11, 18):
                tried = plain_deals(bursts, total)
                most = max((plain_share(bursts, delays) for delays in tried), default=None)
                for delays in itertools.product(range(8), repeat=len(bursts)):
                    due = list(delays) in tried and plain_share(bursts, delays) == most
                    self.assertIs(is_best_deal(bursts, total, list(delays)), due)

    def test_papers(self):
        right = [[3, 2], [4, 2], [3, 3]]
        self.assertEqual([is_best_deal([3, 2], 6, paper) for paper in right], [True, True, True])
        wrong = [[3, 2, 1], [3], [2, 2], [4, 3], [5, 1], [7, 2], [3.0, 2], [True, 2], [3, None], ["3", 2], [[3], 2],
                 (3, 2), [], [0, 0], [-3, 2], ((3, 2),), [3, 1]]
        check_papers(self, is_best_deal, ([3, 2], 6), right, wrong)
        check_papers(self, is_best_deal, ([1], 1), [[1]], [[True], [2], [0], (1,), [1, 1], []])
        # Without any deal no paper is right.
        check_papers(self, is_best_deal, ([6, 6], 11), [], [[6, 6], [6, 5], None, []])
        self.assertIs(is_best_deal(bursts=[1], total=1, paper=[1]), True)

    def test_checks(self):
        for function in (deals, best_deal, best_by_all):
            good = {"bursts": [2, 3], "total": 9}
            check_errors(self, function, good, {"bursts": BAD_BURSTS, "total": bad_numbers(1, 18)})
            check_answer(self, function, good)
        for paper in (None, [3, 3], ODD_PAPERS[-1]):
            good = {"bursts": [2, 3], "total": 9, "paper": paper}
            check_errors(self, is_best_deal, good, {"bursts": BAD_BURSTS, "total": bad_numbers(1, 18)})
        good = {"bursts": [2, 3], "delays": [2, 4]}
        bad = bad_number_lists([2, 4], 1, 6, lengths=(0, 1, 3))
        bad += [([1, 4], BadNumber), ([2, 2], BadNumber), ([0, 4], BadNumber)]
        check_errors(self, deal_share, good, {"bursts": BAD_BURSTS, "delays": bad})
        check_answer(self, deal_share, good)
        for burst in range(7):
            for delay in range(-1, 9):
                if not max(1, burst) <= delay <= 6:
                    check_error(self, BadNumber, "delays", deal_share, [burst], [delay])


def plain_chain(codes, delays, rows, patterns):
    """What the chain tells, with each link told by all streams."""
    beats = len(rows) + sum(delays)
    letters = codes[0].letters
    told, offset = [list(row) for row in rows], 0
    for code, delay, pattern in zip(codes, delays, patterns):
        sent = [[0] * letters for _ in range(beats)]
        for at, row in enumerate(told):
            sent[offset + at] = [0 if value is None else value for value in row]
        heard = [None if flag else plain_signs(code, sent, beat) for beat, flag in enumerate(pattern)]
        found = {(beat, place): value for fresh in plain_run(code, delay, heard, 0) for beat, place, value in fresh}
        told = [[None if value is None else found[(offset + at, place)] for place, value in enumerate(row)]
                for at, row in enumerate(told)]
        offset += delay
    return told


class Chains(unittest.TestCase):
    def test_against_all_streams(self):
        numbers = Numbers(41)
        gone = kept = 0
        for _ in range(80):
            size, letters, links = ((2, 1, 1), (2, 1, 2), (2, 1, 3), (3, 1, 2), (2, 2, 1))[numbers.below(5)]
            delays = [1 + numbers.below(2) for _ in range(links)]
            rows = numbers.matrix(size, {2: 4, 3: 2}[size] if letters == 1 else 3, letters)
            beats = len(rows) + sum(delays)
            codes = [some_code(numbers, size, letters, 1 + numbers.below(3), numbers.below(4)) for _ in range(links)]
            patterns = [[int(numbers.below(3) == 0) for _ in range(beats)] for _ in range(links)]
            found = run_chain(codes, delays, rows, patterns)
            check_same(self, found, plain_chain(codes, delays, rows, patterns))
            flat = [value for row in found for value in row]
            gone += flat.count(None)
            kept += len(flat) - flat.count(None)
        self.assertGreater(gone, 50)
        self.assertGreater(kept, 50)

    def test_codes_that_mend_their_links(self):
        numbers = Numbers(12)
        for size in (2, 5, 16):
            for settings in (((1, 2, 1, 1),), ((1, 2, 1, 1), (2, 3, 1, 2)), ((2, 4, 2, 2), (1, 3, 2, 2), (2, 2, 0, 3))):
                makings = [Making(Field(size), *setting) for setting in settings]
                codes = [making.code for making in makings]
                if len({code.letters for code in codes}) > 1:
                    codes = [base_code(Field(size), making.burst, 2) for making in makings]
                    delays = [2 for _ in makings]
                else:
                    delays = [making.delay for making in makings]
                rows = numbers.matrix(size, 20, codes[0].letters)
                patterns = [some_pattern(numbers, BurstRule(making.burst, delay), 20 + sum(delays))
                            for making, delay in zip(makings, delays)]
                check_same(self, run_chain(codes, delays, rows, patterns), rows)

    def test_only_the_letter_is_gone(self):
        code = TimeCode(Field(3), 2, 2, [[[1, 0], [0, 0]], [[0, 0], [0, 1]]])
        clear = TimeCode(Field(3), 2, 2, [[[1, 0], [0, 1]]])
        rows = [[1, 2], [2, 1], [1, 1]]
        for codes in ([code, clear], [clear, code]):
            # Beat 1 of the first link is lost, and letters of beats 0 and 1 with it.
            offset = 1 if codes[1] is code else 0
            lost = [0, 1, 0, 0, 0] if offset == 0 else [0, 0, 1, 0, 0]
            patterns = [lost, [0] * 5] if offset == 0 else [[0] * 5, lost]
            check_same(self, run_chain(codes, [1, 1], rows, patterns), [[1, None], [None, 1], [1, 1]])
        # Gone at link 0 stays gone, though link 1 tells the 0 that the relay sends for it.
        check_same(self, run_chain([clear, clear], [1, 1], [[2, 2]], [[1, 0, 0], [0, 0, 0]]), [[None, None]])
        # The rows behind a row that is gone are told all the same.
        check_same(self, run_chain([clear] * 3, [1, 2, 1], rows, [[1, 0, 0, 0, 0, 0, 0], [0, 0, 1, 0, 0, 0, 0],
                                                                  [0, 0, 0, 0, 0, 0, 0]]),
                   [[None, None], [None, None], [1, 1]])

    def test_the_clock(self):
        clear = TimeCode(Field(2), 1, 1, [[[1]]])
        rows = [[1], [1], [1]]
        # Link 1 sends row r in clock beat 2 + r, link 2 in clock beat 5 + r.
        for link, first in ((0, 0), (1, 2), (2, 5)):
            for lost in range(9):
                patterns = [[0] * 9 for _ in range(3)]
                patterns[link][lost] = 1
                due = [[None if lost == first + at else 1] for at in range(3)]
                check_same(self, run_chain([clear] * 3, [2, 3, 1], rows, patterns), due)

    def test_zero_rows_are_no_tail(self):
        code = TimeCode(Field(2), 1, 1, [[[1]], [[1]]])
        check_same(self, run_chain([code], [1], [[1]], [[1, 0]]), [[None]])
        # Ahead of the offset of link 1 a row of zeros is a letter like others: it is lost, too.
        check_same(self, run_chain([code, code], [1, 1], [[1]], [[0, 0, 0], [1, 0, 0]]), [[None]])
        check_same(self, run_chain([code, code], [1, 1], [[1]], [[0, 0, 0], [0, 0, 0]]), [[1]])

    def test_edges(self):
        code = TimeCode(Field(2), 1, 1, [[[1]]])
        check_same(self, run_chain([code], [6], [], [[0] * 6]), [])
        check_same(self, run_chain([code] * 3, [6, 6, 6], [], [[1] * 18] * 3), [])
        check_same(self, run_chain([code] * 3, [6, 6, 6], [[1]] * 20, [[0] * 38] * 3), [[1]] * 20)
        none = TimeCode(Field(2), 0, 2, [[]])
        check_same(self, run_chain([none, none], [1, 2], [[], []], [[0, 1, 0, 1, 1]] * 2), [[], []])
        large = Numbers(2)
        code = TimeCode(Field(16), 12, 12, [large.matrix(16, 12, 12) for _ in range(3)])
        rows = large.matrix(16, 20, 12)
        check_same(self, run_chain([code] * 2, [1, 1], rows, [[0] * 22] * 2), rows)

    def test_every_field(self):
        for size in SIZES:
            numbers = Numbers(size)
            rows = numbers.matrix(size, 9, 1)
            codes = [base_code(Field(size), 1, 1), TimeCode(Field(size), 1, 2, [[[1, 1]]])]
            check_same(self, run_chain(codes, [1, 1], rows, [[0, 1, 0, 1] + [0] * 7, [0] * 11]), rows)


class ChainChecks(unittest.TestCase):
    def setUp(self):
        code = base_code(Field(3), 1, 1)
        self.good = {"codes": [code, code], "delays": [1, 2], "rows": [[1], [2]],
                     "patterns": [[0, 1, 0, 0, 0], [0, 0, 0, 1, 0]]}

    def bad_codes(self):
        code = base_code(Field(3), 1, 1)
        found = [(value, BadShape) for value in NO_LISTS + ((code,), (code, code), code)]
        found += [([code] * 4, BadShape), ([], BadShape), ([code, base_code(Field(9), 1, 1)], BadShape)]
        found += [([base_code(Field(3), 2, 2), code], BadShape)]
        return found + [([code, code, TimeCode(Field(3), 0, 2, [[]])], BadShape)]

    def test_checks(self):
        pattern = [0, 1, 0, 0, 0]
        bad_patterns = bad_matrices(2, [pattern, [0, 0, 0, 1, 0]])
        bad_patterns += [([pattern], BadShape), ([pattern] * 3, BadShape), ([[2] * 5, [0] * 4], BadShape),
                         ([pattern[:4]] * 2, BadShape), ([[0] * 6] * 2, BadShape)]
        bad_delays = bad_number_lists([1, 2], 1, 6, lengths=(0, 1, 3))
        check_errors(self, run_chain, self.good, {
            "codes": self.bad_codes(), "delays": bad_delays, "rows": bad_matrices(3, [[1], [2]], most=20),
            "patterns": bad_patterns})
        check_same(self, check_answer(self, run_chain, self.good), [[1], [2]])
        same = [[1], [1]]
        check_answer(self, run_chain, {**self.good, "rows": same, "patterns": [pattern] * 2})

    def test_shape_of_all_patterns_ahead_of_entries(self):
        for value in bad_entries(2):
            check_error(self, BadShape, "patterns", run_chain, self.good["codes"], [1, 2], [[1], [2]],
                        [[value] * 5, [0] * 4])
            check_error(self, BadElement, "patterns", run_chain, self.good["codes"], [1, 2], [[1], [2]],
                        [[0] * 5, [0] * 4 + [value]])

    def test_nothing_that_is_passed_changes(self):
        good = copy.deepcopy({name: self.good[name] for name in ("delays", "rows", "patterns")})
        found = run_chain(self.good["codes"], good["delays"], good["rows"], good["patterns"])
        found[0][0] = None
        for name in good:
            check_same(self, good[name], self.good[name])


if __name__ == "__main__":
    unittest.main()
