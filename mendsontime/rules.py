"""Rules that tell which patterns of losses are allowed."""

from mendsontime.errors import check_number, check_pattern

MOST_BEATS = 800
MOST_BURST = 8
MOST_GAP = 8
MOST_WINDOW = 7


class BurstRule:
    """Stretches of at most `burst` lost beats, with gaps of at least `gap` heard beats. It never changes."""

    def __init__(self, burst, gap):
        self._burst = check_number(burst, 0, MOST_BURST, "burst")
        self._gap = check_number(gap, 1, MOST_GAP, "gap")

    @property
    def burst(self):
        """The most beats of a stretch."""
        return self._burst

    @property
    def gap(self):
        """The least beats of a gap."""
        return self._gap

    def first_state(self):
        """The state ahead of beat 0: a stretch may begin."""
        return 0

    def after(self, state, lost):
        """The state after a heard or a lost beat, or None if the beat breaks the rule."""
        check_number(lost, 0, 1, "lost")
        if lost == 1:
            return state + 1 if state < self._burst else None
        if state == 0:
            return 0
        # Up to `burst` the state counts lost beats of a stretch, so this beat is the first heard one behind it.
        heard = max(state - self._burst, 0) + 1
        return self._burst + heard if heard < self._gap else 0

    def first_break(self, pattern):
        """The first beat that breaks the rule, or None."""
        state = self.first_state()
        for beat, flag in enumerate(check_pattern(pattern, MOST_BEATS, "pattern")):
            state = self.after(state, flag)
            if state is None:
                return beat
        return None

    def __contains__(self, x):
        return self.first_break(x) is None

    def __eq__(self, other):
        return isinstance(other, BurstRule) and self._burst == other._burst and self._gap == other._gap


class WindowRule:
    """Every `window` beats in a row lose at most `few` beats, or at most `burst` in one run. It never changes."""

    def __init__(self, window, burst, few):
        self._window = check_number(window, 2, MOST_WINDOW, "window")
        self._burst = check_number(burst, 0, window - 1, "burst")
        self._few = check_number(few, min(1, burst), burst, "few")

    @property
    def window(self):
        """The number of beats that are looked at together."""
        return self._window

    @property
    def burst(self):
        """The most lost beats of a window whose lost beats follow each other."""
        return self._burst

    @property
    def few(self):
        """The most lost beats of a window whose lost beats may stand anywhere."""
        return self._few

    def first_state(self):
        """The state ahead of beat 0: the beats ahead of it count as heard."""
        return (0,) * (self._window - 1)

    def after(self, state, lost):
        """The state after a heard or a lost beat, or None if the beat breaks the rule."""
        check_number(lost, 0, 1, "lost")
        flags = state + (lost,)
        return flags[1:] if self._is_fair(flags) else None

    def first_break(self, pattern):
        """The first beat that breaks the rule, or None."""
        state = self.first_state()
        for beat, flag in enumerate(check_pattern(pattern, MOST_BEATS, "pattern")):
            state = self.after(state, flag)
            if state is None:
                return beat
        return None

    def _is_fair(self, flags):
        """Tell whether the beats with these flags are fair."""
        lost = [beat for beat, flag in enumerate(flags) if flag == 1]
        if len(lost) <= self._few:
            return True
        return len(lost) <= self._burst and lost[-1] - lost[0] == len(lost) - 1

    def __contains__(self, x):
        return self.first_break(x) is None

    def __eq__(self, other):
        if not isinstance(other, WindowRule):
            return False
        return self._window == other._window and self._burst == other._burst and self._few == other._few
