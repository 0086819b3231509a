"""Point 5: what is not a valid race."""

from laprunners.errors import InvalidLength, InvalidRunner
from laprunners.races import Race
from tests.support import BIG, NO_NUMBERS, Case, crowd

GOOD = (0, [(0, 1)])
BAD_NAMES = [
    "", "A", "aB", "1a", "9", "a-b", "a b", " a", "a ", "a_b", "_a", "abcdefghi", "a12345678", "a.", "a\n",
    "\u00e4", "a\u00e4", "a\u0661", "\uff41", "a\u00b2", None, True, False, 0, 5, b"a", ("a",), (),
]
BAD_LENGTHS = NO_NUMBERS + [0, (0, 1), -1, (-1, 2), -BIG, (-1, BIG)]
BAD_PIECES = [
    (), [], [(0, 1)] * 2, [(0, 1), ((0, 1), 1)], [(1, 1)], [((1, 2), 1)], [(-1, 1)], [(-1, 1), (0, 1)],
    [(0, 1), (3, 1), (2, 1)], [(0, 1), (3, 1), (3, 2)], [(0, 1), (3, 1), ((3, 1), 2)],
    [(0, 1), ((5, 2), 1), ((5, 2), 1)], [(0, 1), (BIG, 1), (BIG - 1, 1)], [(0, 1), ((1, 2), 1), ((1, 3), 1)],
    [(at, 1) for at in range(21)], [(at, 1) for at in range(40)],
    None, True, 0, 1, "", "ab", {}, {0: 1}, {(0, 1): (1, 1)}, (0, 1), ((0, 1), 1),
    [[0, 1]], [(0,)], [(0, 1, 2)], [()], [None], [0], ["01"], [(0, 1), None], [(0, 1), [1, 2]], [(0, 1), (1,)],
]
BAD_RUNNERS = [
    None, True, False, 0, 1, "", "ab", b"ab", (), (0,), (0, [(0, 1)], 2), [0, [(0, 1)]], [], {}, {0: [(0, 1)]},
    ([(0, 1)], 0), (0, 1), (0, 0),
]


class Lengths(Case):
    def test_invalid_lengths(self):
        for length in BAD_LENGTHS:
            with self.subTest(length=length):
                self.fails(InvalidLength, Race, length, {"a": GOOD})

    def test_the_length_is_checked_first(self):
        for length in BAD_LENGTHS:
            for runners in (None, {}, {"A": GOOD}, {"a": None}, crowd(13 - 1, 1)):
                self.fails(InvalidLength, Race, length, runners)


class Runners(Case):
    def refused(self, name, runner):
        """Check that a runner is refused alone, beside valid ones, and before another invalid one."""
        with self.subTest(name=name, runner=runner):
            self.fails(InvalidRunner, Race, 10, {name: runner}, name=name)
            self.fails(InvalidRunner, Race, 10, {"x": GOOD, name: runner, "y": GOOD}, name=name)
            self.fails(InvalidRunner, Race, (7, 3), {"x": GOOD, name: runner, "y": None, "Z": GOOD}, name=name)
            self.fails(InvalidRunner, Race, 10, {"y": None, name: runner}, name="y")

    def test_no_dicts(self):
        for runners in (None, True, 1, "a", "", [], [("a", GOOD)], (), ("a",), (("a", GOOD),), Race(1, {"a": GOOD})):
            with self.subTest(runners=runners):
                self.fails(InvalidRunner, Race, 10, runners, name=None)

    def test_too_few_and_too_many(self):
        self.fails(InvalidRunner, Race, 10, {}, name=None)
        many = {"r" + str(at): GOOD for at in range(13)}
        self.fails(InvalidRunner, Race, 10, many, name=None)
        self.fails(InvalidRunner, Race, 10, {**many, "A": None}, name=None)
        self.fails(InvalidRunner, Race, 10, {str(at): None for at in range(13)}, name=None)
        del many["r7"]
        self.assertEqual(len(Race(10, many)), 12)

    def test_names(self):
        for name in BAD_NAMES:
            self.refused(name, GOOD)
            self.refused(name, None)

    def test_no_runners(self):
        for runner in BAD_RUNNERS:
            self.refused("a", runner)

    def test_starts(self):
        for start in NO_NUMBERS:
            self.refused("a", (start, [(0, 1)]))
            self.refused("a", (start, []))

    def test_pieces(self):
        for pieces in BAD_PIECES:
            self.refused("a", (0, pieces))
            if isinstance(pieces, list):
                self.refused("a", (0, tuple(pieces)))

    def test_times_and_speeds(self):
        for value in NO_NUMBERS:
            self.refused("a", (0, [(0, value)]))
            self.refused("a", (0, [(value, 1)]))
            self.refused("a", (0, [(0, 1), (2, value)]))
            self.refused("a", (0, [(0, 1), (value, 2)]))
            self.refused("a", (0, ((0, 1), (1, 2), (value, value))))

    def test_the_first_invalid_runner_is_named(self):
        self.fails(InvalidRunner, Race, 10, {"b": GOOD, "c": (0, []), "a": None}, name="c")
        self.fails(InvalidRunner, Race, 10, {"b": GOOD, "C": GOOD, "a": None}, name="C")
        self.fails(InvalidRunner, Race, 10, {"b": None, 5: None}, name="b")
        self.fails(InvalidRunner, Race, 10, {5: GOOD, "b": None}, name=5)
        self.fails(InvalidRunner, Race, 10, {(1, 2): GOOD}, name=(1, 2))

    def test_twenty_pieces_are_valid(self):
        for pieces in ([(at, 1) for at in range(20)], tuple((at, 1) for at in range(20))):
            self.assertEqual(len(Race(10, {"a": (0, pieces)}).pieces("a")), 20)
