"""Point 7: changed races, and when races are equal."""

from fractions import Fraction

from laprunners.errors import (
    InvalidFactor, InvalidLength, InvalidNames, InvalidNumber, InvalidRunner, InvalidTime, UnknownName,
)
from laprunners.races import Race
from tests.support import BIG, NO_NAMES, NO_NUMBERS, NO_TIMES, Case, crowd, fraction, ratio_of

RING = (7, 2)
MOMENTS = [0, (1, 3), 1, (7, 4), 2, 3, 5, (61, 8), 40, BIG, (BIG, 9)]


def described(race):
    """All that makes up a race."""
    return race.length, {name: (race.start(name), race.pieces(name)) for name in race.names()}


def sample():
    """A race with six runners and five pieces each."""
    return Race(RING, crowd(6, 5))


def full():
    """A race with a runner of twenty pieces, at the times 0 to 19."""
    return Race(10, {"a": (0, [(at, at % 3) for at in range(20)]), "b": (1, [(0, 1)])})


class Staying(Case):
    """A case that checks that each race stays as it was."""

    def of(self, race, call, *args):
        """Call a method of a race that returns a race, and check that the race stays."""
        before, twin = described(race), Race(*described(race))
        found = getattr(race, call)(*args)
        self.assertIsInstance(found, Race)
        self.assertIsNot(found, race)
        self.same(described(race), before)
        self.assertEqual(race, twin)
        return found

    def refused(self, race, error, call, *args, **fields):
        """Check the error of a method of a race, and that the race stays."""
        before = described(race)
        self.fails(error, getattr(race, call), *args, **fields)
        self.same(described(race), before)


class Changed(Staying):
    def race(self):
        return Race(10, {"a": (2, [(0, 1), (3, 2), ((9, 2), -1)]), "b": (7, [(0, -1)])})

    def pieces(self, time, speed):
        found = self.of(self.race(), "changed", "a", time, speed)
        self.same(found.pieces("b"), [((0, 1), (-1, 1))])
        self.same((found.start("a"), found.start("b"), found.length), ((2, 1), (7, 1), (10, 1)))
        return found.pieces("a")

    def test_pieces_from_the_time_on_are_left_out(self):
        one, two, three = ((0, 1), (1, 1)), ((3, 1), (2, 1)), ((9, 2), (-1, 1))
        self.same(self.pieces(0, 5), [((0, 1), (5, 1))])
        self.same(self.pieces((0, 1), (5, 1)), [((0, 1), (5, 1))])
        self.same(self.pieces(1, 5), [one, ((1, 1), (5, 1))])
        self.same(self.pieces(3, 5), [one, ((3, 1), (5, 1))])
        self.same(self.pieces((3, 1), 5), [one, ((3, 1), (5, 1))])
        self.same(self.pieces(4, 5), [one, two, ((4, 1), (5, 1))])
        self.same(self.pieces((9, 2), 5), [one, two, ((9, 2), (5, 1))])
        self.same(self.pieces(BIG, (-1, BIG)), [one, two, three, ((BIG, 1), (-1, BIG))])

    def test_a_piece_begins_even_if_the_speed_remains(self):
        one, two, three = ((0, 1), (1, 1)), ((3, 1), (2, 1)), ((9, 2), (-1, 1))
        self.same(self.pieces(0, 1), [one])
        self.same(self.pieces(2, 1), [one, ((2, 1), (1, 1))])
        self.same(self.pieces(3, 2), [one, two])
        self.same(self.pieces(9, -1), [one, two, three, ((9, 1), (-1, 1))])

    def test_positions(self):
        race = sample()
        for at in MOMENTS:
            for speed in (0, 3, (-5, 2), BIG):
                found = self.of(race, "changed", "r3", at, speed)
                for time in MOMENTS:
                    later = max(Fraction(0), fraction(time) - fraction(at))
                    until = at if later else time
                    wanted = fraction(race.position("r3", until)) + later * fraction(speed)
                    self.same(found.position("r3", time), ratio_of(wanted))
                    self.same(found.position("r2", time), race.position("r2", time))

    def test_twenty_pieces_at_most(self):
        race = full()
        self.refused(race, InvalidRunner, "changed", "a", 20, 1, name="a")
        self.refused(race, InvalidRunner, "changed", "a", (39, 2), 1, name="a")
        self.refused(race, InvalidRunner, "changed", "a", BIG, 1, name="a")
        for time in (0, 1, 18, (37, 2), 19):
            self.assertLessEqual(len(self.of(race, "changed", "a", time, 9).pieces("a")), 20)
        self.assertEqual(len(self.of(race, "changed", "a", 19, 9).pieces("a")), 20)
        self.assertEqual(len(self.of(race, "changed", "b", 20, 9).pieces("b")), 2)

    def test_the_errors_in_their_order(self):
        race = full()
        for name in NO_NAMES:
            self.refused(race, UnknownName, "changed", name, 1, 1, name=name)
            self.refused(race, UnknownName, "changed", name, -1, "x", name=name)
        for time in NO_TIMES:
            self.refused(race, InvalidTime, "changed", "a", time, 1)
            self.refused(race, InvalidTime, "changed", "a", time, "x")
        for speed in NO_NUMBERS:
            self.refused(race, InvalidNumber, "changed", "a", 1, speed)
            self.refused(race, InvalidNumber, "changed", "a", 20, speed)


class Without(Staying):
    def test_the_others_remain(self):
        race = sample()
        for name in race.names():
            found = self.of(race, "without", name)
            length, runners = described(race)
            del runners[name]
            self.same(described(found), (length, runners))
            self.assertIs(name in found, False)
            self.assertEqual(len(found), 5)
            for other in found.names():
                for time in MOMENTS:
                    self.same(found.position(other, time), race.position(other, time))

    def test_the_only_runner(self):
        race = Race(10, {"a": (0, [(0, 1)])})
        self.refused(race, InvalidRunner, "without", "a", name=None)
        for name in NO_NAMES + ["b"]:
            self.refused(race, UnknownName, "without", name, name=name)

    def test_unknown_names(self):
        for name in NO_NAMES:
            self.refused(sample(), UnknownName, "without", name, name=name)


class Renamed(Staying):
    NAMES = {"r0": "zoe", "r1": "r2", "r2": "r1", "r3": "r3", "r4": "a1234567", "r5": "q"}

    def test_new_names(self):
        race = sample()
        names = dict(self.NAMES)
        found = self.of(race, "renamed", names)
        self.assertEqual(names, self.NAMES)
        self.same(found.names(), ["a1234567", "q", "r1", "r2", "r3", "zoe"])
        for old, new in self.NAMES.items():
            self.same(found.start(new), race.start(old))
            self.same(found.pieces(new), race.pieces(old))
            for time in MOMENTS:
                self.same(found.position(new, time), race.position(old, time))

    def test_the_dict_is_not_kept(self):
        names = dict(self.NAMES)
        found = sample().renamed(names)
        names["r0"] = "r1"
        names.clear()
        self.assertIn("zoe", found)

    def test_the_same_names(self):
        race = sample()
        self.assertEqual(self.of(race, "renamed", {name: name for name in race.names()}), race)

    def test_invalid_names(self):
        race = Race(1, {"a": (0, [(0, 0)]), "b": (0, [(0, 1)])})
        for names in (
            None, True, 1, "ab", [], ["c", "d"], [("a", "c"), ("b", "d")], ("c", "d"), {}, {"a": "c"}, {"b": "c"},
            {"a": "c", "c": "d"}, {"a": "c", "b": "d", "c": "e"}, {"a": "c", "b": "d", 1: "e"}, {"a": "c", "b": "c"},
            {"a": "b", "b": "b"}, {"a": "b", None: "a"}, {"A": "c", "B": "d"}, {("a",): "c", "b": "d"},
        ):
            with self.subTest(names=names):
                self.refused(race, InvalidNames, "renamed", names)
        for value in NO_NAMES:
            if value != "zz":
                for names in ({"a": value, "b": "c"}, {"a": "c", "b": value}, {"a": value, "b": value}):
                    with self.subTest(names=names):
                        self.refused(race, InvalidNames, "renamed", names)


class Turned(Staying):
    def test_starts_move_forward(self):
        race = sample()
        for shift in (0, 1, (1, 2), (7, 2), 9, -1, (-10, 3), BIG, -BIG, (-1, BIG)):
            found = self.of(race, "turned", shift)
            self.same(found.length, race.length)
            for name in race.names():
                self.same(found.pieces(name), race.pieces(name))
                start = (fraction(race.start(name)) + fraction(shift)) % fraction(RING)
                self.same(found.start(name), ratio_of(start))
                for time in MOMENTS:
                    run = fraction(race.position(name, time)) - fraction(race.start(name))
                    self.same(found.position(name, time), ratio_of(start + run))

    def test_once_around(self):
        self.assertEqual(sample().turned(RING), sample())
        self.assertEqual(sample().turned((-7, 1)), sample())

    def test_no_numbers(self):
        for shift in NO_NUMBERS:
            self.refused(sample(), InvalidNumber, "turned", shift)


class ReversedRing(Staying):
    def test_negatives(self):
        race = sample()
        found = self.of(race, "reversed_ring")
        for name in race.names():
            self.same(found.start(name), ratio_of(-fraction(race.start(name)) % fraction(RING)))
            self.same(found.pieces(name),
                      [(time, ratio_of(-fraction(speed))) for time, speed in race.pieces(name)])
            for time in MOMENTS:
                self.same(found.place(name, time), ratio_of(-fraction(race.place(name, time)) % fraction(RING)))

    def test_twice(self):
        self.assertEqual(sample().reversed_ring().reversed_ring(), sample())

    def test_the_start_zero(self):
        race = Race(10, {"a": (0, [(0, 3), (2, (-1, 2))])})
        self.assertEqual(race.reversed_ring(), Race(10, {"a": (0, [(0, -3), (2, (1, 2))])}))


class Slowed(Staying):
    def test_times_and_speeds(self):
        race = sample()
        for factor in (1, 2, (1, 2), (7, 3), BIG, (1, BIG)):
            found = self.of(race, "slowed", factor)
            slower = fraction(factor)
            for name in race.names():
                self.same(found.start(name), race.start(name))
                self.same(found.pieces(name), [
                    (ratio_of(fraction(time) * slower), ratio_of(fraction(speed) / slower))
                    for time, speed in race.pieces(name)
                ])
                for time in MOMENTS:
                    self.same(found.position(name, ratio_of(fraction(time) * slower)), race.position(name, time))

    def test_factors(self):
        for factor in NO_NUMBERS + [0, (0, 1), -1, (-1, 2), -BIG]:
            self.refused(sample(), InvalidFactor, "slowed", factor)


class Equality(Case):
    def check(self, one, two, equal):
        self.assertIs(one == two, equal)
        self.assertIs(two == one, equal)
        self.assertIs(one != two, not equal)
        self.assertIs(two != one, not equal)

    def test_equal_races(self):
        one = Race(10, {"a": (3, [(0, 1), (2, 4)]), "b": (0, [(0, 0)])})
        self.check(one, one, True)
        self.check(one, Race(10, {"a": (3, [(0, 1), (2, 4)]), "b": (0, [(0, 0)])}), True)
        self.check(one, Race((10, 1), {"b": (20, (((0, 1), 0),)), "a": ((-7, 1), [(0, (1, 1)), ((2, 1), 4)])}), True)

    def test_different_races(self):
        one = Race(10, {"a": (3, [(0, 1), (2, 4)])})
        for length, runners in (
            (11, {"a": (3, [(0, 1), (2, 4)])}),
            (10, {"b": (3, [(0, 1), (2, 4)])}),
            (10, {"a": (4, [(0, 1), (2, 4)])}),
            (10, {"a": (3, [(0, 1), (2, 5)])}),
            (10, {"a": (3, [(0, 1), (3, 4)])}),
            (10, {"a": (3, [(0, 2), (2, 4)])}),
            (10, {"a": (3, [(0, 1)])}),
            (10, {"a": (3, [(0, 1), (2, 4), (5, 4)])}),
            (10, {"a": (3, [(0, 1), (1, 1), (2, 4)])}),
            (10, {"a": (3, [(0, 1), (2, 4)]), "b": (3, [(0, 1), (2, 4)])}),
        ):
            with self.subTest(length=length, runners=runners):
                self.check(one, Race(length, runners), False)

    def test_names_and_runners_belong_together(self):
        one = Race(10, {"a": (3, [(0, 1)]), "b": (4, [(0, 1)])})
        self.check(one, Race(10, {"b": (3, [(0, 1)]), "a": (4, [(0, 1)])}), False)

    def test_other_kinds_of_objects(self):
        one = Race(10, {"a": (3, [(0, 1)])})
        for other in (None, True, 1, (10, 1), "a", ["a"], {"a": (3, [(0, 1)])}, described(one), object(), Race):
            self.check(one, other, False)


class Interface(Case):
    def test_names_of_parameters(self):
        race = Race(10, {"a": (0, [(0, 3)]), "b": (1, [(0, 1)])})
        self.assertEqual(race.changed(speed=2, time=4, name="a"), race.changed("a", 4, 2))
        self.assertEqual(race.without(name="a"), race.without("a"))
        self.assertEqual(race.renamed(names={"a": "b", "b": "c"}), race.renamed({"a": "b", "b": "c"}))
        self.assertEqual(race.turned(shift=4), race.turned(4))
        self.assertEqual(race.slowed(factor=4), race.slowed(4))
        with self.assertRaises(InvalidLength):
            Race(runners={}, length=0)

    def test_changes_one_after_another(self):
        race = Race(10, {"a": (0, [(0, 3)]), "b": (1, [(0, 1)])})
        found = race.turned(3).slowed(2).reversed_ring().renamed({"a": "x", "b": "a"}).changed("x", 4, 1).without("a")
        self.assertEqual(found, Race(10, {"x": (7, [(0, (-3, 2)), (4, 1)])}))
