"""A console: commands in words, which build a race, move its clock, and answer questions about it."""

from laprunners.errors import InvalidCommand, NoRunners, ParseError
from laprunners.events import nth_pass
from laprunners.goals import nth_goal
from laprunners.passes import all_passes, passes
from laprunners.races import Race
from laprunners.sessions import Session
from laprunners.standings import gap, standing
from laprunners.text_format import format_number, format_race, parse_number

# The words that follow each command: names of runners, numbers and integers.
FORMS = {
    "ring": ("number",),
    "runner": ("name", "number", "number"),
    "clock": ("number",),
    "speed": ("name", "number"),
    "undo": (),
    "race": (),
    "place": ("name", "number"),
    "laps": ("name", "number"),
    "gap": ("name", "name", "number"),
    "passes": ("name", "name", "number", "number"),
    "total": ("number", "number"),
    "order": ("number",),
    "nth": ("integer",),
}
OK = "ok"
NOTHING = "-"


def _clock(session, values):
    """Set the clock."""
    session.advance(values[0])
    return OK


def _speed(session, values):
    """Give a runner another speed."""
    session.set_speed(values[0], values[1])
    return OK


def _undo(session, _):
    """Undo the last step."""
    step = session.undo()
    return " ".join([word if isinstance(word, str) else format_number(word) for word in step])


def _race(session, _):
    """Tell the race in one row."""
    return format_race(session.race).replace("\n", "; ")


def _place(session, values):
    """Tell the place of a runner at a time."""
    return format_number(session.race.place(values[0], values[1]))


def _laps(session, values):
    """Tell the laps of a runner at a time."""
    return format_number(session.race.laps(values[0], values[1]))


def _gap(session, values):
    """Tell the gap from a runner to another one at a time."""
    first, second, time = values
    return format_number(gap(session.race, first, second, time))


def _passes(session, values):
    """Tell how often a runner passes another one in a window."""
    over, under, start, end = values
    return format_number(passes(session.race, over, under, start, end))


def _total(session, values):
    """Tell the number of all passes in a window."""
    return format_number(all_passes(session.race, values[0], values[1]))


def _order(session, values):
    """Tell the standing at a time."""
    rows = standing(session.race, values[0])
    return " ".join([format_number(place) + ":" + ",".join(names) for place, names in rows])


def _nth(session, values):
    """Tell the pass with a number after the clock."""
    found = nth_pass(session.race, values[0], after=session.clock)
    if found is None:
        return NOTHING
    time, over, under = found
    return " ".join([format_number(time), over, under])


def _meet(session, values):
    """Tell the first time after the clock at which runners are at one place."""
    time = nth_goal(session.race, values, 1, after=session.clock)
    return NOTHING if time is None else format_number(time)


ANSWERS = {
    "clock": _clock,
    "speed": _speed,
    "undo": _undo,
    "race": _race,
    "place": _place,
    "laps": _laps,
    "gap": _gap,
    "passes": _passes,
    "total": _total,
    "order": _order,
    "nth": _nth,
    "meet": _meet,
}


class Console:
    """A ring, at first without runners, and the session of its race."""

    def __init__(self):
        self._length = (1, 1)
        self._session = None

    @property
    def race(self):
        """The race of the session."""
        if self._session is None:
            raise NoRunners()
        return self._session.race

    def execute(self, command):
        """Perform a command, and return its answer."""
        word, values = _parsed(command)
        if word == "ring":
            return self._set_ring(values[0])
        if word == "runner":
            name, start, speed = values
            return self._add_runner(name, start, speed)
        if self._session is None:
            raise NoRunners()
        answer = ANSWERS[word]
        return answer(self._session, values)

    def _set_ring(self, length):
        """Set the length of the ring, and remove all runners."""
        if length[0] <= 0:
            raise InvalidCommand()
        self._length, self._session = length, None
        return OK

    def _add_runner(self, name, start, speed):
        """Add a runner with one piece, and start a new session."""
        runners = {}
        if self._session is not None:
            race = self._session.race
            runners = {other: (race.start(other), race.pieces(other)) for other in race.names()}
        if name in runners:
            raise InvalidCommand()
        runners[name] = (start, [(0, speed)])
        self._session = Session(Race(self._length, runners))
        return OK


def _parsed(command):
    """Return the first word of a command and the list of what follows it, numbers as ratios."""
    if not isinstance(command, str) or "\n" in command:
        raise InvalidCommand()
    word, *words = command.split(" ")
    if "" in words:
        raise InvalidCommand()
    if word == "meet":
        return word, words
    if word not in FORMS or len(words) != len(FORMS[word]):
        raise InvalidCommand()
    return word, [_value(kind, text) for kind, text in zip(FORMS[word], words)]


def _value(kind, text):
    """Return the value of a word of a kind."""
    if kind == "name":
        return text
    try:
        number = parse_number(text)
    except ParseError:
        raise InvalidCommand() from None
    if kind == "number":
        return number
    if number[1] > 1:
        raise InvalidCommand()
    return number[0]
