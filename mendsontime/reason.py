"""What the heard signs of a pattern determine, with reasons and silences."""

from mendsontime.errors import TooLarge, check_number, check_pattern, is_whole
from mendsontime.forms import is_list, is_matrix, is_tuple
from mendsontime.linear import (
    combine_rows, find_factors, first_place, null_row_against, reduced_pairs, unit_places, unit_row, with_rows,
)
from mendsontime.timecode import sign_row

MOST_BEATS = 60
MOST_DELAY = 6
MOST_UNKNOWN = 200


def check_size(code, flags):
    """Refuse a pattern with too many letters."""
    if len(flags) * code.letters > MOST_UNKNOWN:
        raise TooLarge(MOST_UNKNOWN)


def checked_beats(code, pattern):
    """Return a copy of the pattern after its checks and that of its size."""
    flags = check_pattern(pattern, MOST_BEATS, "pattern")
    check_size(code, flags)
    return flags


def checked_letter(code, pattern, beat, place):
    """Return a copy of the pattern after its checks, those of one of its letters, and that of its size."""
    flags = check_pattern(pattern, MOST_BEATS, "pattern")
    check_number(beat, 0, len(flags) - 1, "beat")
    check_number(place, 0, code.letters - 1, "place")
    check_size(code, flags)
    return flags


def facts_of(code, beats, beat):
    """The facts of the signs of one beat, as rows over the letters of so many beats."""
    ahead = (beat - code.memory) * code.letters
    behind = [0] * ((beats - 1 - beat) * code.letters)
    return [[0] * max(0, ahead) + row[max(0, -ahead):] + behind for row in code.fact_rows(code.memory)]


def heard_facts(code, flags):
    """The facts of all heard signs, ascending by beat and sign."""
    beats = [beat for beat, flag in enumerate(flags) if flag == 0]
    return [fact for beat in beats for fact in facts_of(code, len(flags), beat)]


def told_moments(code, flags):
    """For each letter in order the first beat by which it is determined, or None."""
    told = [None] * (len(flags) * code.letters)
    pairs = []
    for beat, flag in enumerate(flags):
        if flag == 0:
            pairs = with_rows(code.field, pairs, facts_of(code, len(flags), beat))
            for place in unit_places(pairs):
                if told[place] is None:
                    told[place] = beat
    return told


def by_beats(code, beats, entries):
    """The entries of all letters as one row for each beat."""
    return [entries[beat * code.letters:(beat + 1) * code.letters] for beat in range(beats)]


def determined(code, pattern):
    """Whether each letter is determined by the last beat."""
    flags = checked_beats(code, pattern)
    told = told_moments(code, flags)
    return by_beats(code, len(flags), [moment is not None for moment in told])


def told_beats(code, pattern):
    """The first beat by which each letter is determined, or None."""
    flags = checked_beats(code, pattern)
    return by_beats(code, len(flags), told_moments(code, flags))


def mends(code, delay, pattern):
    """Tell whether every letter that is due within the pattern is determined by its due beat."""
    check_number(delay, 1, MOST_DELAY, "delay")
    flags = checked_beats(code, pattern)
    told = by_beats(code, len(flags), told_moments(code, flags))
    for beat in range(len(flags) - delay):
        if any([moment is None or moment > beat + delay for moment in told[beat]]):
            return False
    return True


def reason_for(code, pattern, beat, place):
    """The reason of a letter, or None if it is not determined by the last beat."""
    flags = checked_letter(code, pattern, beat, place)
    width = len(flags) * code.letters
    goal = unit_row(width, beat * code.letters + place)
    factors = find_factors(code.field, width, heard_facts(code, flags), goal)
    if factors is None:
        return None
    signs = [(moment, sign) for moment, flag in enumerate(flags) if flag == 0 for sign in range(code.signs)]
    return [(moment, sign, factor) for (moment, sign), factor in zip(signs, factors) if factor != 0]


def is_reason(code, pattern, beat, place, paper):
    """Tell whether the paper is a reason of that letter, in any form."""
    flags = checked_letter(code, pattern, beat, place)
    if not is_list(paper, 0, len(flags) * code.signs):
        return False
    if not all([is_reason_part(code, flags, part) for part in paper]):
        return False
    signs = [(moment, sign) for moment, sign, _ in paper]
    if any([early >= late for early, late in zip(signs, signs[1:])]):
        return False
    width = len(flags) * code.letters
    facts = [facts_of(code, len(flags), moment)[sign] for moment, sign in signs]
    total = combine_rows(code.field, width, facts, [factor for _, _, factor in paper])
    return total == unit_row(width, beat * code.letters + place)


def is_reason_part(code, flags, part):
    """Tell whether the value has a heard beat, a sign and a factor other than 0."""
    if not is_tuple(part, 3):
        return False
    moment, sign, factor = part
    if not is_whole(moment, 0, len(flags) - 1) or flags[moment] == 1:
        return False
    return is_whole(sign, 0, code.signs - 1) and is_whole(factor, 1, code.field.size - 1)


def silence_for(code, pattern, beat, place):
    """A silence of a letter, or None if it is determined by the last beat."""
    flags = checked_letter(code, pattern, beat, place)
    width = len(flags) * code.letters
    pairs = reduced_pairs(code.field, heard_facts(code, flags))
    # The entry of the barrier at that letter is its sum of products with the unit row, so it is not 0.
    barrier = null_row_against(code.field, width, pairs, unit_row(width, beat * code.letters + place))
    return None if barrier is None else by_beats(code, len(flags), barrier)


def is_silence(code, pattern, beat, place, paper):
    """Tell whether the paper is a silence of that letter."""
    flags = checked_letter(code, pattern, beat, place)
    if not is_matrix(paper, code.field.size, len(flags), len(flags), code.letters):
        return False
    return paper[beat][place] != 0 and is_silent(code, flags, paper)


def is_silent(code, flags, stream):
    """Tell whether all signs of the stream in heard beats are 0."""
    heard = [beat for beat, flag in enumerate(flags) if flag == 0]
    return all([first_place(sign_row(code, stream, beat)) is None for beat in heard])
