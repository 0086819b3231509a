"""Points 5 and 6: valid races, places, positions, laps and speeds."""

from fractions import Fraction

from laprunners import races
from laprunners.errors import InvalidTime, UnknownName
from laprunners.races import Race
from tests.support import (
    BIG, NO_NAMES, NO_TIMES, Case, crowd, fraction, model_position, model_speed, ratio_of,
)

RING = (7, 2)


def sample():
    """A race with integers and ratios, forward and backward."""
    return Race(10, {
        "b": (5, [(0, 1), (4, -2)]),
        "a": (0, [(0, 3)]),
        "c7": ((-1, 2), (((0, 1), (1, 3)), ((5, 2), 0), (BIG, (-7, 2)))),
    })


class ValidRaces(Case):
    def test_example_of_the_document(self):
        race = Race(10, {"a": (0, [(0, 3)]), "b": (5, [(0, 1), (4, -2)])})
        self.same((race.position("b", 6), race.place("b", 6), race.laps("a", 7)), ((5, 1), (5, 1), 2))

    def test_lengths(self):
        for length in (1, 10, (1, 2), (7, 3), BIG, (1, BIG), (BIG, 2)):
            self.same(Race(length, {"a": (0, [(0, 0)])}).length, ratio_of(fraction(length)))

    def test_one_to_twelve_runners_with_one_to_twenty_pieces(self):
        for runners in (1, 2, 7, 12):
            for pieces in (1, 2, 13, 20):
                with self.subTest(runners=runners, pieces=pieces):
                    made = crowd(runners, pieces)
                    race = Race(RING, made)
                    self.assertEqual(len(race), runners)
                    self.same(race.names(), sorted(made))
                    for name in made:
                        self.assertEqual(len(race.pieces(name)), pieces)

    def test_names(self):
        for name in ("a", "z", "a0", "z9", "abcdefgh", "a1234567", "q9q9q9q9", "none"):
            race = Race(1, {name: (0, [(0, 0)])})
            self.same(race.names(), [name])
            self.assertIs(name in race, True)

    def test_names_are_sorted(self):
        race = Race(1, {name: (0, [(0, 0)]) for name in ("b", "a9", "ab", "a10", "a")})
        self.same(race.names(), ["a", "a10", "a9", "ab", "b"])

    def test_contains(self):
        race = sample()
        for name in ("a", "b", "c7"):
            self.assertIs(name in race, True)
        for value in NO_NAMES + ["c", "C7", "a b", ("a", "b")]:
            with self.subTest(value=value):
                self.assertIs(value in race, False)
                self.assertIs(value not in race, True)

    def test_len(self):
        self.assertEqual(len(sample()), 3)
        self.assertEqual(len(Race(1, {"a": (0, [(0, 0)])})), 1)

    def test_lists_and_tuples_of_pieces_alike(self):
        listed = Race(1, {"a": (0, [(0, 1), (2, 3)])})
        self.assertEqual(listed, Race(1, {"a": (0, ((0, 1), (2, 3)))}))
        self.same(listed.pieces("a"), [((0, 1), (1, 1)), ((2, 1), (3, 1))])

    def test_the_first_time_may_be_a_ratio(self):
        self.same(Race(1, {"a": (0, [((0, 1), 2)])}).pieces("a"), [((0, 1), (2, 1))])


class Starts(Case):
    def test_starts_are_places(self):
        for length in (10, (7, 3), (1, BIG), BIG):
            for start in (0, 3, 10, 11, 25, -1, -10, -11, (1, 2), (-1, 2), (-43, 2), BIG, -BIG, (BIG, 7), (-BIG, 7)):
                with self.subTest(length=length, start=start):
                    race = Race(length, {"a": (start, [(0, 5), (2, -1)])})
                    wanted = ratio_of(fraction(start) % fraction(length))
                    self.same(race.start("a"), wanted)
                    self.same(race.position("a", 0), wanted)
                    self.same(race.place("a", 0), wanted)
                    self.same(race.laps("a", 0), 0)

    def test_laps_count_from_the_place(self):
        race = Race(10, {"a": (-3, [(0, 1)])})
        self.same((race.start("a"), race.position("a", 3), race.laps("a", 3)), ((7, 1), (10, 1), 1))
        self.same((race.laps("a", (5, 2)), race.place("a", 3)), (0, (0, 1)))

    def test_backward_laps(self):
        race = Race(10, {"a": (3, [(0, -1)])})
        self.same((race.laps("a", 3), race.laps("a", 4), race.place("a", 4)), (0, -1, (9, 1)))
        self.same((race.position("a", 13), race.laps("a", 13), race.laps("a", (27, 2))), ((-10, 1), -1, -2))


class Moving(Case):
    def check(self, length, runners, race, moments):
        for name, runner in runners.items():
            for time in moments:
                position = model_position(length, runner, time)
                ring = fraction(length)
                self.same(race.position(name, time), ratio_of(position))
                self.same(race.place(name, time), ratio_of(position % ring))
                self.same(race.laps(name, time), (position / ring).__floor__())
                self.same(race.speed(name, time), ratio_of(model_speed(runner, time)))

    def test_before_at_and_after_the_times_of_pieces(self):
        for runners, pieces in ((1, 1), (1, 20), (3, 2), (12, 20)):
            made = crowd(runners, pieces)
            race = Race(RING, made)
            begins = race.change_times()
            moments = [0, (0, 1), (1, 2), BIG, (BIG, 2), (BIG, 4)]
            for begin in begins[::5] + begins[-1:]:
                nearby = [fraction(begin) + shift for shift in (Fraction(-1, 1000), 0, Fraction(1, 1000))]
                moments = moments + [ratio_of(moment) for moment in nearby]
            with self.subTest(runners=runners, pieces=pieces):
                self.check(RING, made, race, moments)

    def test_pieces_at_times_of_thirty_digits(self):
        made = {"a": ((-1, 3), [(0, BIG), ((BIG, 2), (-BIG, 3)), (BIG, 0), (BIG + 1, (1, BIG))])}
        race = Race((BIG, 7), made)
        moments = [0, 1, (BIG, 4), (BIG - 2, 2), (BIG, 2), (BIG + 2, 2), BIG - 1, BIG, BIG + 1, BIG * 2]
        self.check((BIG, 7), made, race, moments)

    def test_the_speed_holds_from_its_time_on(self):
        race = sample()
        self.same([race.speed("b", time) for time in (0, (39, 10), 4, (41, 10), BIG)],
                  [(1, 1), (1, 1), (-2, 1), (-2, 1), (-2, 1)])
        self.same([race.position("b", time) for time in (0, 3, 4, 5, 9)],
                  [(5, 1), (8, 1), (9, 1), (7, 1), (-1, 1)])
        self.same(race.speed("c7", (5, 2)), (0, 1))

    def test_integers_and_ratios_alike(self):
        plain = Race(10, {"a": (3, [(0, 2), (4, -5)])})
        ratios = Race((10, 1), {"a": ((3, 1), [((0, 1), (2, 1)), ((4, 1), (-5, 1))])})
        self.assertEqual(plain, ratios)
        for time in (0, 1, 4, 5, BIG):
            for call in ("position", "place", "laps", "speed"):
                self.same(getattr(plain, call)("a", time), getattr(ratios, call)("a", (time, 1)))

    def test_the_errors(self):
        race = sample()
        for call in (race.position, race.place, race.laps, race.speed):
            for name in NO_NAMES:
                self.fails(UnknownName, call, name, 0, name=name)
                self.fails(UnknownName, call, name, -1, name=name)
            for time in NO_TIMES:
                with self.subTest(call=call.__name__, time=time):
                    self.fails(InvalidTime, call, "a", time)
        for call in (race.start, race.pieces):
            for name in NO_NAMES:
                self.fails(UnknownName, call, name, name=name)


class ChangeTimes(Case):
    def test_none(self):
        self.same(Race(1, crowd(5, 1)).change_times(), [])

    def test_ascending_without_duplicates(self):
        race = Race(10, {
            "a": (0, [(0, 1), (5, 2), (8, 2)]),
            "b": (0, [(0, 1), ((1, 2), 2), ((5, 1), 0)]),
            "c": (0, [(0, 1), (BIG, 3)]),
        })
        self.same(race.change_times(), [(1, 2), (5, 1), (8, 1), (BIG, 1)])

    def test_of_a_crowd(self):
        made = crowd(12, 20)
        wanted = sorted({fraction(piece[0]) for _, pieces in made.values() for piece in pieces} - {0})
        self.same(Race(RING, made).change_times(), [ratio_of(time) for time in wanted])


class NothingShared(Case):
    def test_passed_values_can_be_changed(self):
        pieces = [(0, 3), (4, 5)]
        runners = {"a": (1, pieces), "b": (2, [(0, 1)])}
        race, twin = Race(10, runners), Race(10, runners)
        self.same(runners, {"a": (1, [(0, 3), (4, 5)]), "b": (2, [(0, 1)])})
        pieces.append((6, 7))
        pieces[0] = (0, 9)
        runners["c"] = (0, [(0, 0)])
        del runners["b"]
        self.same(race.names(), ["a", "b"])
        self.same(race.pieces("a"), [((0, 1), (3, 1)), ((4, 1), (5, 1))])
        self.same(race.position("a", 10), (43, 1))
        self.assertEqual(race, twin)

    def test_returned_values_can_be_changed(self):
        race, twin = sample(), sample()
        for call in (race.names, lambda: race.pieces("b"), race.change_times):
            before = call()
            self.assertIsNot(call(), before)
            wanted = list(before)
            before.append("more")
            before[0] = "other"
            self.same(call(), wanted)
        self.assertEqual(race, twin)

    def test_results_do_not_depend_on_earlier_calls(self):
        race = sample()
        times = [9, 0, (5, 2), 4, BIG, 9, 4, 0]
        self.same([race.position("b", time) for time in times],
                  [Race(10, {"b": (5, [(0, 1), (4, -2)])}).position("b", time) for time in times])

    def test_the_length_cannot_be_set(self):
        race = sample()
        with self.assertRaises(AttributeError):
            race.length = 3
        self.same(race.length, (10, 1))


class Interface(Case):
    def test_names_of_parameters(self):
        race = Race(runners={"a": (0, [(0, 3)])}, length=10)
        self.same(race.start(name="a"), (0, 1))
        self.same(race.pieces(name="a"), [((0, 1), (3, 1))])
        self.same(race.position(time=4, name="a"), (12, 1))
        self.same(race.place(time=4, name="a"), (2, 1))
        self.same(race.laps(time=4, name="a"), 1)
        self.same(race.speed(time=4, name="a"), (3, 1))

    def test_methods_are_defined_in_the_class(self):
        self.assertEqual(Race.__module__, "laprunners.races")
        self.assertIs(races.Race, Race)
        for name in ("length names start pieces change_times position place laps speed changed without renamed "
                     "turned reversed_ring slowed __eq__ __len__ __contains__").split():
            self.assertIn(name, vars(Race))
