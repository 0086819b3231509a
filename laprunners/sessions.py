"""Sessions: a race with a clock, whose runners get new speeds, step by step."""

from laprunners.checks import as_time
from laprunners.errors import InvalidTime, NothingToUndo
from laprunners.ratios import as_ratio, is_less


class Session:
    """A race, a clock, and the steps that led to them, which can be undone."""

    def __init__(self, race):
        self._race = race
        self._clock = (0, 1)
        self._steps = []
        # The race and the clock before each step.
        self._past = []

    def __len__(self):
        return len(self._steps)

    @property
    def race(self):
        """The race as it is now."""
        return self._race

    @property
    def clock(self):
        """The time of the clock, a ratio."""
        return self._clock

    @property
    def steps(self):
        """The list of the steps that are not undone, as tuples."""
        return list(self._steps)

    def advance(self, time):
        """Set the clock to a time that is not before it."""
        moment = as_time(time)
        if is_less(moment, self._clock):
            raise InvalidTime()
        self._take(("advance", moment), self._race, moment)

    def set_speed(self, name, speed):
        """Give a runner a speed from the time of the clock on."""
        race = self._race.changed(name, self._clock, speed)
        self._take(("speed", name, as_ratio(speed)), race, self._clock)

    def stop(self, name):
        """Let a runner stand from the time of the clock on."""
        self.set_speed(name, 0)

    def undo(self):
        """Undo the last step, and return it."""
        if not self._steps:
            raise NothingToUndo()
        self._race, self._clock = self._past.pop()
        return self._steps.pop()

    def _take(self, step, race, clock):
        """Keep a step, which leads to a race and a clock."""
        self._past.append((self._race, self._clock))
        self._steps.append(step)
        self._race, self._clock = race, clock
