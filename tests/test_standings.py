"""Point 8: the standing, the order just after a time, gaps, and the runners ahead."""

from laprunners import standings
from laprunners.errors import InvalidTime, UnknownName
from laprunners.races import Race
from laprunners.standings import gap, order_after, runners_ahead, standing
from tests.support import BIG, NO_NAMES, NO_TIMES, Case, crowd, fraction, model_position, model_speed, ratio_of

RING = (7, 2)


def bunch():
    """A race in which runners meet, stay together and change their speeds."""
    return Race(10, {
        "e": (0, [(0, 2)]),
        "a": (0, [(0, 2), (5, -1)]),
        "d": (0, [(0, -2)]),
        "b": (0, [(0, (1, 2))]),
        "c": (5, [(0, 2), (5, -1)]),
    })


class Standing(Case):
    def test_at_the_start(self):
        self.same(standing(bunch(), 0), [((0, 1), ["a", "b", "d", "e"]), ((5, 1), ["c"])])

    def test_at_meetings_and_changes(self):
        self.same(standing(bunch(), (5, 2)),
                  [((0, 1), ["c"]), ((5, 4), ["b"]), ((5, 1), ["a", "d", "e"])])
        self.same(standing(bunch(), 5), [((0, 1), ["a", "d", "e"]), ((5, 2), ["b"]), ((5, 1), ["c"])])
        self.same(standing(bunch(), 10),
                  [((0, 1), ["c", "d", "e"]), ((5, 1), ["a", "b"])])

    def test_one_runner(self):
        race = Race(RING, {"a": (-1, [(0, 1)])})
        self.same(standing(race, 0), [((5, 2), ["a"])])
        self.same(standing(race, (BIG, 2)), [(race.place("a", (BIG, 2)), ["a"])])

    def test_crowds(self):
        for runners, pieces in ((2, 3), (12, 1), (12, 20)):
            made = crowd(runners, pieces)
            race = Race(RING, made)
            for time in [0, 1, (7, 4), BIG, (BIG, 3)] + race.change_times()[:6]:
                places = {}
                for name in sorted(made):
                    place = model_position(RING, made[name], time) % fraction(RING)
                    places.setdefault(place, []).append(name)
                self.same(standing(race, time), [(ratio_of(place), places[place]) for place in sorted(places)])


class OrderAfter(Case):
    def test_at_one_place_by_speed(self):
        self.same(order_after(bunch(), 0), [["d"], ["b"], ["a", "e"], ["c"]])

    def test_the_speed_from_the_time_on_counts(self):
        self.same(order_after(bunch(), (5, 2)), [["c"], ["b"], ["d"], ["a", "e"]])
        self.same(order_after(bunch(), 5), [["d"], ["a"], ["e"], ["b"], ["c"]])

    def test_equal_speeds_that_become_different(self):
        race = Race(10, {"b": (1, [(0, 1)]), "a": (1, [(0, 1), (3, 2)]), "c": (11, [(0, 1), (3, 2), (4, 1)])})
        self.same(order_after(race, 0), [["a", "b", "c"]])
        self.same(order_after(race, (29, 10)), [["a", "b", "c"]])
        self.same(order_after(race, 3), [["b"], ["a", "c"]])
        self.same(order_after(race, 4), [["b"], ["c"], ["a"]])

    def test_equal_places_of_different_laps(self):
        race = Race(10, {"a": (0, [(0, 1)]), "b": (0, [(0, 11)]), "c": (0, [(0, -9)])})
        self.same(order_after(race, 1), [["c"], ["a"], ["b"]])
        self.same(order_after(race, (1, 1)), [["c"], ["a"], ["b"]])

    def test_places_of_equal_runners_stay_apart(self):
        race = Race(10, {"a": (0, [(0, 1)]), "b": (1, [(0, 1)]), "c": (0, [(0, 1)])})
        self.same(order_after(race, 0), [["a", "c"], ["b"]])
        self.same(order_after(race, 9), [["b"], ["a", "c"]])

    def test_crowds(self):
        made = crowd(12, 9)
        race = Race(RING, made)
        for time in [0, (1, 3), BIG] + race.change_times()[:9]:
            keys = {}
            for name in sorted(made):
                place = model_position(RING, made[name], time) % fraction(RING)
                keys.setdefault((place, model_speed(made[name], time)), []).append(name)
            self.same(order_after(race, time), [keys[key] for key in sorted(keys)])


class Gaps(Case):
    def test_forward(self):
        race = Race(10, {"a": (2, [(0, 0)]), "b": (5, [(0, 1), (4, -2)])})
        self.same([gap(race, "a", "b", time) for time in (0, 1, 4, 5, 7, (15, 2), 8)],
                  [(3, 1), (4, 1), (7, 1), (5, 1), (1, 1), (0, 1), (9, 1)])
        self.same([gap(race, "b", "a", time) for time in (0, 1, 4, 5, 7, (15, 2), 8)],
                  [(7, 1), (6, 1), (3, 1), (5, 1), (9, 1), (0, 1), (1, 1)])

    def test_a_gap_of_zero(self):
        for time in (0, 3, 5, 9, BIG):
            for name in "abcde":
                self.same(gap(bunch(), name, name, time), (0, 1))
        self.same(gap(bunch(), "a", "e", 4), (0, 1))
        self.same(gap(bunch(), "a", "d", (5, 2)), (0, 1))

    def test_crowds(self):
        made = crowd(12, 7)
        race = Race(RING, made)
        for time in [0, (7, 5), BIG] + race.change_times()[:4]:
            for first in made:
                for second in made:
                    wanted = model_position(RING, made[second], time) - model_position(RING, made[first], time)
                    self.same(gap(race, first, second, time), ratio_of(wanted % fraction(RING)))


class Ahead(Case):
    def test_the_next_ones(self):
        self.same(runners_ahead(bunch(), "a", 0), ((5, 1), ["c"]))
        self.same(runners_ahead(bunch(), "c", 0), ((5, 1), ["a", "b", "d", "e"]))
        self.same(runners_ahead(bunch(), "b", (5, 2)), ((15, 4), ["a", "d", "e"]))
        self.same(runners_ahead(bunch(), "d", (5, 2)), ((5, 1), ["c"]))
        self.same(runners_ahead(bunch(), "c", (5, 2)), ((5, 4), ["b"]))

    def test_gaps_that_differ_by_one(self):
        rows = {"a": (0, [(0, 0)]), "b": (3, [(0, 0)]), "c": (2, [(0, 0)]), "d": (1, [(0, 0)]), "e": (1, [(0, 5)])}
        race = Race(10, rows)
        self.same(runners_ahead(race, "a", 0), ((1, 1), ["d", "e"]))
        self.same(runners_ahead(race.without("d").without("e"), "a", 0), ((2, 1), ["c"]))
        self.same(runners_ahead(race, "b", 0), ((7, 1), ["a"]))

    def test_over_the_end_of_the_ring(self):
        race = Race(RING, {"a": (3, [(0, 0)]), "b": ((1, 2), [(0, 0)]), "c": (1, [(0, 0)])})
        self.same(runners_ahead(race, "a", BIG), ((1, 1), ["b"]))

    def test_nobody(self):
        self.assertIsNone(runners_ahead(Race(10, {"a": (3, [(0, 1)])}), "a", 4))
        race = Race(10, {"a": (3, [(0, 1)]), "b": (13, [(0, 1)]), "c": (3, [(0, 11)])})
        for name in "abc":
            self.assertIsNone(runners_ahead(race, name, 0))
            self.assertIsNone(runners_ahead(race, name, 2))
        self.same(runners_ahead(race, "a", (1, 2)), ((5, 1), ["c"]))

    def test_crowds(self):
        race = Race(RING, crowd(12, 7))
        for time in [0, (7, 5), BIG] + race.change_times()[:4]:
            for name in race.names():
                gaps = {other: fraction(gap(race, name, other, time)) for other in race.names()}
                least = min(value for value in gaps.values() if value > 0)
                names = [other for other in race.names() if gaps[other] == least]
                self.same(runners_ahead(race, name, time), (ratio_of(least), names))


class Errors(Case):
    def test_times(self):
        race = bunch()
        for time in NO_TIMES:
            with self.subTest(time=time):
                self.fails(InvalidTime, standing, race, time)
                self.fails(InvalidTime, order_after, race, time)
                self.fails(InvalidTime, gap, race, "a", "b", time)
                self.fails(InvalidTime, gap, race, "a", "a", time)
                self.fails(InvalidTime, runners_ahead, race, "a", time)
                self.fails(InvalidTime, runners_ahead, Race(1, {"a": (0, [(0, 0)])}), "a", time)

    def test_names(self):
        race = bunch()
        for name in NO_NAMES:
            with self.subTest(name=name):
                for time in (0, -1, None):
                    self.fails(UnknownName, gap, race, name, "b", time, name=name)
                    self.fails(UnknownName, gap, race, "b", name, time, name=name)
                    self.fails(UnknownName, gap, race, name, "yy", time, name=name)
                    self.fails(UnknownName, gap, race, "yy", name, time, name="yy")
                    self.fails(UnknownName, runners_ahead, race, name, time, name=name)


class Interface(Case):
    def test_names_of_parameters(self):
        race = bunch()
        self.same(standing(time=0, race=race), standing(race, 0))
        self.same(order_after(time=0, race=race), order_after(race, 0))
        self.same(gap(time=0, second="c", first="a", race=race), (5, 1))
        self.same(runners_ahead(time=0, name="a", race=race), ((5, 1), ["c"]))

    def test_functions_are_defined_here(self):
        for name in ("standing", "order_after", "gap", "runners_ahead"):
            self.assertEqual(getattr(standings, name).__module__, "laprunners.standings")

    def test_results_are_new_and_the_race_stays(self):
        race = bunch()
        calls = [lambda: standing(race, 1), lambda: order_after(race, 1), lambda: [runners_ahead(race, "c", 0)]]
        for call in calls:
            wanted = repr(call())
            found = call()
            for row in found:
                names = row[1] if isinstance(row, tuple) else row
                names.append("more")
            found.append("more")
            self.assertEqual(repr(call()), wanted)
        self.assertEqual(race, bunch())

    def test_integers_and_ratios_alike(self):
        race = bunch()
        for time in (0, 3, 5, BIG):
            self.same(standing(race, (time, 1)), standing(race, time))
            self.same(order_after(race, (time, 1)), order_after(race, time))
            self.same(gap(race, "a", "c", (time, 1)), gap(race, "a", "c", time))
            self.same(runners_ahead(race, "a", (time, 1)), runners_ahead(race, "a", time))
