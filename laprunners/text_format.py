"""Texts of numbers and races, and the way back from them."""

from laprunners.errors import InvalidRunner, ParseError
from laprunners.ratios import as_ratio, is_ratio
from laprunners.races import Race

MOST_DIGITS = 60


def format_number(value):
    """Return the text of a number."""
    top, bottom = as_ratio(value)
    return str(top) if bottom == 1 else f"{top}/{bottom}"


def format_race(race):
    """Return the text of a race."""
    rows = ["ring " + format_number(race.length)]
    for name in race.names():
        pieces = [format_number(time) + ":" + format_number(speed) for time, speed in race.pieces(name)]
        rows.append(" ".join([name, format_number(race.start(name)), *pieces]))
    return "\n".join(rows)


def parse_number(text):
    """Return the number of a text as a ratio."""
    number = _number(text)
    if number is None:
        raise ParseError(0)
    return number


def parse_race(text):
    """Return the race of a text."""
    if not isinstance(text, str):
        raise ParseError(0)
    rows = text.split("\n")
    length = _length(rows[0])
    if length is None:
        raise ParseError(0)
    runners = {}
    for index, row in enumerate(rows[1:], start=1):
        name, runner = _runner(row, length, index)
        if name in runners:
            raise ParseError(index)
        runners[name] = runner
    try:
        return Race(length, runners)
    except InvalidRunner:
        # Each runner is valid, so their number is not.
        raise ParseError(len(rows) - 1) from None


def _length(row):
    """Return the length that the first row of a race gives, or None."""
    word, _, text = row.partition(" ")
    number = _number(text)
    return number if word == "ring" and number is not None and number[0] > 0 else None


def _runner(row, length, index):
    """Return the name and the runner (start, pieces) of a row with an index; raise ParseError unless it is valid."""
    words = row.split(" ")
    if len(words) < 3:
        raise ParseError(index)
    pieces = []
    for word in words[2:]:
        time, _, speed = word.partition(":")
        pieces.append((_number(time), _number(speed)))
    name, runner = words[0], (_number(words[1]), pieces)
    try:
        # A race also refuses None in the place of a number.
        Race(length, {name: runner})
    except InvalidRunner:
        raise ParseError(index) from None
    return name, runner


def _number(text):
    """Return the number of a text as a ratio, or None if the value is not such a text."""
    if not isinstance(text, str):
        return None
    top, slash, bottom = text.partition("/")
    if not _is_integer_text(top):
        return None
    if not slash:
        return (int(top), 1)
    if not _is_integer_text(bottom):
        return None
    number = (int(top), int(bottom))
    return number if number[1] > 1 and is_ratio(number) else None


def _is_integer_text(text):
    """Tell whether a text is that of an integer, with no sign but a minus and no leading zero."""
    digits = text.removeprefix("-")
    if len(digits) > MOST_DIGITS or not digits.isascii() or not digits.isdigit():
        return False
    return text == "0" or not digits.startswith("0")
