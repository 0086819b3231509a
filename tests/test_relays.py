"""Point 17: a mark that is handed over where runners pass each other."""

from fractions import Fraction

from laprunners.errors import InvalidTime, InvalidWindow, LimitExceeded, UnknownName
from laprunners.events import listed_passes, nth_pass, pass_times
from laprunners.passes import all_passes
from laprunners.races import Race
from laprunners.relays import carrier, handovers, relay_map
from tests.models import model_events, model_handovers, model_map
from tests.support import BIG, NO_NAMES, NO_TIMES, Case, crowd, fraction, ratio_of, small_races

WINDOWS = [(0, 6), (1, (7, 2)), (4, 4), ((5, 2), 8), (0, 0)]


def sample():
    """Runner a runs around three standing runners."""
    return Race(10, {"a": (0, [(0, 1)]), "b": (2, [(0, 0)]), "c": (4, [(0, 0)]), "d": (6, [(0, 0)])})


def joined(first, second):
    """The map of a window with the first map, followed by one with the second map."""
    return {name: second[holder] for name, holder in first.items()}


class ByModel(Case):
    def check(self, length, runners, start, end):
        race, events = Race(length, runners), model_events(length, runners, start, end)
        for name in runners:
            rows = model_handovers(length, runners, events, name)
            self.same(handovers(race, name, start, end), [(ratio_of(time), *names) for time, *names in rows])
        wanted = model_map(length, runners, events)
        self.same(relay_map(race, start, end), wanted)
        self.assertEqual(list(relay_map(race, start, end)), sorted(runners))
        self.same({name: carrier(race, name, start, end) for name in sorted(runners)}, wanted)

    def test_small_races(self):
        for length, runners in small_races(40, 91):
            for window in WINDOWS:
                with self.subTest(length=length, runners=runners, window=window):
                    self.check(length, runners, *window)

    def test_a_crowd(self):
        self.check((7, 2), crowd(12, 4), 0, 2)
        self.check((7, 2), crowd(5, 4), (1, 3), 6)

    def test_runners_in_groups(self):
        # On a short ring with whole speeds many runners are at one place at once, also some with equal speeds.
        runners = {name: (start, [(0, speed), (3, -speed)]) for name, start, speed in
                   (("a", 0, 1), ("b", 0, 2), ("c", 0, 1), ("d", (1, 2), 0), ("e", 0, 0), ("f", (1, 2), 2), ("g", 0, -1))}
        for window in ((0, 1), (0, 5), ((1, 2), (7, 2)), (1, 2)):
            self.check(1, runners, *window)


class Handovers(Case):
    def test_two_runners(self):
        self.same(handovers(sample(), "a", 0, 14), [
            ((2, 1), "a", "b"), ((12, 1), "b", "a"), ((14, 1), "a", "c"),
        ])
        self.same(handovers(sample(), "d", 0, 14), [((6, 1), "d", "a"), ((12, 1), "a", "b")])
        self.same(relay_map(sample(), 0, 14), {"a": "c", "b": "a", "c": "d", "d": "b"})
        self.same([carrier(sample(), name, 0, 14) for name in "abcd"], ["c", "a", "d", "b"])

    def test_three_runners_at_one_place(self):
        # All three are at place 0 at times 1, 2, 3 and so on, and c and b at times between, too.
        race = Race(1, {"a": (0, [(0, 0)]), "b": (0, [(0, 1)]), "c": (0, [(0, 2)])})
        self.same(handovers(race, "a", 0, 3), [
            ((1, 2), "a", "c"), ((1, 1), "c", "a"), ((3, 2), "a", "c"), ((2, 1), "c", "a"), ((5, 2), "a", "c"),
            ((3, 1), "c", "a"),
        ])
        self.same(handovers(race, "b", (1, 2), 1), [((1, 1), "b", "c")])
        self.same([carrier(race, name, (1, 2), 1) for name in "abc"], ["b", "c", "a"])

    def test_equal_speeds_at_the_place_of_a_pass(self):
        # Runners b, c and d run side by side and pass a; all four take part in sorted order.
        race = Race(10, {"a": (2, [(0, 0)]), "b": (0, [(0, 1)]), "c": (0, [(0, 1)]), "d": (10, [(0, 1)]), "e": (9, [(0, 0)])})
        self.same(relay_map(race, 0, 2), {"a": "b", "b": "c", "c": "d", "d": "a", "e": "e"})
        self.same(handovers(race, "d", 0, 12), [((2, 1), "d", "a"), ((12, 1), "a", "b")])
        self.same(handovers(race, "c", 0, 9), [((2, 1), "c", "d"), ((9, 1), "d", "e")])
        self.same(relay_map(race, 0, (19, 10)), {name: name for name in "abcde"})

    def test_around_the_sorted_names(self):
        race = Race(1, {"d4": (0, [(0, 0)]), "d": (0, [(0, 1)]), "d10": (0, [(0, 2)]), "b": (0, [(0, 3)])})
        self.same(relay_map(race, (99, 100), 1), {"b": "d", "d": "d10", "d10": "d4", "d4": "b"})

    def test_two_places_at_one_time(self):
        race = Race(10, {"a": (0, [(0, 1)]), "d": (2, [(0, 0)]), "b": (5, [(0, 0)]), "c": (7, [(0, -1)])})
        self.same(relay_map(race, 0, 2), {"a": "d", "b": "c", "c": "b", "d": "a"})

    def test_time_zero_and_windows(self):
        race = Race(10, {"a": (0, [(0, 1)]), "b": (0, [(0, 0)])})
        self.same(handovers(race, "a", 0, 9), [])
        self.same(handovers(race, "a", 0, 10), [((10, 1), "a", "b")])
        self.same(handovers(race, "a", 10, 19), [])
        self.same(relay_map(race, 10, 20), {"a": "b", "b": "a"})
        self.same(relay_map(race, 10, 10), {"a": "a", "b": "b"})

    def test_the_speed_just_before_counts(self):
        # At time 2, a comes to the place of b and falls back: a pass. At time 4 they part at one place: no pass.
        race = Race(10, {"a": (0, [(0, 1), (2, -1)]), "b": (2, [(0, 0)])})
        self.same(handovers(race, "a", 0, 11), [((2, 1), "a", "b")])
        race = Race(10, {"a": (0, [(0, 1), (2, 0), (4, 1)]), "b": (2, [(0, 0)])})
        self.same(handovers(race, "a", 0, 14), [((2, 1), "a", "b"), ((14, 1), "b", "a")])

    def test_one_runner(self):
        race = Race(10, {"a": (0, [(0, 1), (5, 3)])})
        self.same([handovers(race, "a", 0, BIG), relay_map(race, 0, BIG), carrier(race, "a", 0, BIG)], [[], {"a": "a"}, "a"])


class Windows(Case):
    def test_the_map_of_two_parts(self):
        for length, runners in small_races(30, 92):
            race = Race(length, runners)
            for start, middle, end in ((0, 4, 9), (1, (7, 2), 5), (0, 0, 6), (2, 7, 7), (4, 5, (61, 8)), (0, 6, 30)):
                first, second = relay_map(race, start, middle), relay_map(race, middle, end)
                self.same(relay_map(race, start, end), joined(first, second))

    def test_handovers_lead_to_the_carrier(self):
        for length, runners in small_races(20, 93):
            race = Race(length, runners)
            for name in runners:
                rows = handovers(race, name, 1, 25)
                self.same(carrier(race, name, 1, 25), rows[-1][2] if rows else name)
                self.same([row[1] for row in rows], [name] * bool(rows) + [row[2] for row in rows[:-1]])
                self.assertLessEqual({row[0] for row in rows}, set(pass_times(race, 1, 25)))

    def test_great_windows_by_small_ones(self):
        # The period of all distances is 1 for speeds that are integers.
        for speeds in ((0, 1), (1, -1, 3), (0, 1, 2, 5), (4, 4, -3, 0, 1), (7, -5, 3, 2, 0, 1, 1, 9)):
            race = Race(1, {name: ((at, 9), [(0, speed)]) if at % 3 else (0, [(0, speed)])
                            for at, (name, speed) in enumerate(zip("abcdefgh", speeds))})
            once, great = relay_map(race, 0, 1), {name: name for name in race.names()}
            for _ in range(2500):
                great = joined(great, once)
            self.same(relay_map(race, 0, 2500), great)
            self.same(relay_map(race, 10 ** 30, 10 ** 30 + 2500), great)
            self.same(relay_map(race, 0, (5001, 2)), joined(great, relay_map(race, 0, (1, 2))))
            self.same(carrier(race, "b", 0, 2500), great["b"])
            # The map, repeated 27720 times, leaves every mark of at most eight runners where it was, so only 10 count.
            many = 27720 * 10 ** 25
            once_more = {name: name for name in race.names()}
            for _ in range(10):
                once_more = joined(once_more, once)
            self.same(relay_map(race, 0, many), {name: name for name in race.names()})
            self.same(relay_map(race, 0, many + 10), once_more)
            self.same(relay_map(race, (1, 2), (2 * many + 1, 2)), {name: name for name in race.names()})

    def test_windows_of_thirty_digits_with_turns(self):
        race = sample().changed("a", 25, 0).changed("b", 30, (1, 3)).changed("c", 31, -2)
        first, second = relay_map(race, 0, 31), relay_map(race, 31, 10 ** 30)
        self.same(relay_map(race, 0, 10 ** 30), joined(first, second))
        # From time 31 on, all distances are repeated after 30.
        once, found, left = relay_map(race, 31, 61), relay_map(race, 0, 31), (10 ** 30 - 31) // 30
        cycle = [{name: name for name in race.names()}]
        while len(cycle) == 1 or cycle[-1] != cycle[0]:
            cycle.append(joined(cycle[-1], once))
        found = joined(found, cycle[left % (len(cycle) - 1)])
        self.same(relay_map(race, 0, 31 + 30 * left), found)
        self.same(relay_map(race, 0, 10 ** 30), joined(found, relay_map(race, 31 + 30 * left, 10 ** 30)))

    def test_a_period_of_another_unit(self):
        # The speeds differ by multiples of 1 / 6, so the period is 6 times the length.
        race = Race((5, 7), {"a": (0, [(0, (1, 2))]), "b": ((1, 9), [(0, (1, 3))]), "c": ((2, 9), [(0, 1)])})
        once = relay_map(race, (1, 4), ratio_of(Fraction(1, 4) + Fraction(30, 7)))
        for rounds in (1, 2, 3, 1000):
            end = ratio_of(Fraction(1, 4) + Fraction(30, 7) * rounds)
            found = {name: name for name in race.names()}
            for _ in range(rounds):
                found = joined(found, once)
            self.same(relay_map(race, (1, 4), end), found)


class Limits(Case):
    def pair(self, speed, *pieces):
        """Runner b passes a so many times in each unit of time, first at half a round."""
        return Race(1, {"a": (0, [(0, 0)]), "b": ((1, 2), [(0, speed), *pieces])})

    def swapped(self, many):
        """The map after many handovers between two runners."""
        return {"a": "ab"[many % 2], "b": "ba"[many % 2]}

    def test_without_turns(self):
        # The period is 1 / 2000 here, so long windows are fine; it must end within the window.
        race = self.pair(2000)
        for end, many in ((1, 2000), (2, 4000), ((4001, 4000), 2001), (10 ** 30, 0), ((2 * 10 ** 30 + 1, 2), 1000)):
            self.same(relay_map(race, 0, end), self.swapped(many))
        self.same(carrier(race, "a", 0, (4001, 4000)), "b")

    def test_short_periods(self):
        # The speeds differ by 5000, so the period is 1 / 5000, whatever the speeds are.
        for speed in (0, 7, -2500, (1, 3)):
            rows = {"a": (0, [(0, speed)]), "b": ((1, 2), [(0, ratio_of(fraction(speed) + 5000))])}
            for end in (1, (7, 2), 10 ** 30):
                many = int(5000 * fraction(end))
                self.same(relay_map(Race(1, rows), 0, end), self.swapped(many))
            rows["c"] = ((1, 3), [(0, ratio_of(fraction(speed) + 15000))])
            race = Race(1, rows)
            once, found = relay_map(race, 0, (1, 5000)), {name: name for name in "abc"}
            for rounds in range(1, 7):
                found = joined(found, once)
                self.same(relay_map(race, 0, ratio_of(Fraction(rounds, 5000))), found)
            self.same(relay_map(race, 0, 6 * 10 ** 29), {name: name for name in "abc"})

    def four(self, *speeds):
        """Four runners with constant speeds on a ring of length 1; the period is 1 for integers like these."""
        starts = [0, (1, 3), (2, 5), (1, 2)]
        return Race(1, {name: (start, [(0, speed)]) for name, start, speed in zip("abcd", starts, speeds)})

    def test_a_period_with_2000_passes(self):
        race, steady = self.four(0, 1, 3, 666), {name: name for name in "abcd"}
        self.same(all_passes(race, 0, 1), 2000)
        once, found = relay_map(race, 0, 1), steady
        self.assertNotEqual(once, steady)
        for end in range(1, 14):
            found = joined(found, once)
            self.same(relay_map(race, 0, end), found)
            self.same({name: carrier(race, name, 0, end) for name in "abcd"}, found)
        self.same(relay_map(race, 0, (5, 2)), joined(relay_map(race, 0, 2), relay_map(race, 2, (5, 2))))
        # Twelve periods bring back every mark of four runners.
        self.same(relay_map(race, 0, 12 * 10 ** 29), steady)
        self.same(relay_map(race, (1, 7), (12 * 7 * 10 ** 29 + 1, 7)), steady)

    def test_a_period_with_more_than_2000_passes(self):
        race = self.four(0, 1, 1, 667)
        self.same(all_passes(race, 0, 1), 2001)
        for call, args in ((relay_map, ()), (carrier, ("a",)), (carrier, ("d",))):
            for start, end in ((0, 1), (0, 2), (0, 10 ** 30), (5, 6), (10 ** 30, 10 ** 30 + 1)):
                self.fails(LimitExceeded, call, race, *args, start, end, limit=2000)
        first, second = relay_map(race, 0, (1, 2)), relay_map(race, (1, 2), (99, 100))
        self.same(relay_map(race, 0, (99, 100)), joined(first, second))

    def test_2000_and_2001_passes_in_less_than_a_period(self):
        race = self.four(0, 1, 2, 1001)
        times = [nth_pass(race, number)[0] for number in (1999, 2000, 2001, 2002)]
        self.assertEqual(len(set(times)), 4)
        self.assertLess(Fraction(*times[-1]), 1)
        self.same(all_passes(race, 0, times[1]), 2000)
        self.same(relay_map(race, 0, times[1]), joined(relay_map(race, 0, times[0]), relay_map(race, times[0], times[1])))
        self.fails(LimitExceeded, relay_map, race, 0, times[2], limit=2000)
        self.fails(LimitExceeded, relay_map, race, 0, 10 ** 30, limit=2000)
        first = nth_pass(race, 1)[0]
        self.same(relay_map(race, 0, times[1]), joined(relay_map(race, 0, first), relay_map(race, first, times[1])))
        self.same(relay_map(race, first, times[2]),
                  joined(relay_map(race, first, times[0]), relay_map(race, times[0], times[2])))
        self.fails(LimitExceeded, relay_map, race, first, times[3], limit=2000)

    def test_the_last_turn(self):
        # 2000 passes up to the turn at time 1, and 2000 from there to time 2.
        for turn, limit in ((1, False), ((4001, 4000), True)):
            race = self.pair(2000, (turn, 1500), (3, 0), (10 ** 20, 0))
            self.same(all_passes(race, 0, turn), 2000 + limit)
            if limit:
                for end in (2, (5, 2), 3):
                    self.fails(LimitExceeded, relay_map, race, 0, end, limit=2000)
                self.same(relay_map(race, (1, 2), 2)["a"], "ab"[all_passes(race, (1, 2), 2) % 2])
            else:
                self.same(relay_map(race, 0, 2), self.swapped(3500))
                self.same(relay_map(race, 0, (7, 3)), self.swapped(4000))
                self.same(relay_map(race, 0, (5, 2)), self.swapped(4250))
                self.same(relay_map(race, 0, 3), self.swapped(5000))

    def test_a_turn_at_the_end_of_a_window_is_not_between(self):
        # Up to time 3 there is no turn between start and end, so the period counts; beyond it there is one.
        race = self.pair(1500, (3, 0))
        self.same(relay_map(race, 0, 3), self.swapped(4500))
        self.fails(LimitExceeded, relay_map, race, 0, (301, 100), limit=2000)
        self.fails(LimitExceeded, relay_map, race, 0, 10 ** 30, limit=2000)
        self.same(relay_map(race, 2, 10 ** 30), self.swapped(1500))
        self.same(relay_map(race, 3, 10 ** 30), self.swapped(0))
        # Neither is a turn at the start.
        race = self.pair(7, (1, 1500))
        self.same(relay_map(race, 1, 10 ** 30), self.swapped(all_passes(race, 1, 10 ** 30)))
        self.same(relay_map(race, 0, 10 ** 30), self.swapped(7 + all_passes(race, 1, 10 ** 30)))

    def test_pieces_at_equal_speed_are_no_turns(self):
        race = self.pair(1500, (1, 1500), (3, 1500), (10 ** 20, 1500))
        self.same(relay_map(race, 0, 3), self.swapped(4500))
        self.same(relay_map(race, 0, 10 ** 30), self.swapped(0))
        self.same(relay_map(race, 0, 10 ** 30), relay_map(self.pair(1500), 0, 10 ** 30))

    def test_exactly_2000_and_2001_handovers(self):
        race = self.pair(1)
        self.same(len(handovers(race, "a", 0, 2000)), 2000)
        self.same(handovers(race, "a", 0, 2000)[-1], ((3999, 2), "b", "a"))
        self.fails(LimitExceeded, handovers, race, "a", 0, 2001, limit=2000)
        self.fails(LimitExceeded, handovers, race, "a", 0, 10 ** 30, limit=2000)

    def test_no_passes(self):
        race = Race(1, {"a": (0, [(0, BIG)]), "b": ((1, 2), [(0, BIG)])})
        self.same(relay_map(race, 0, 10 ** 30), {"a": "a", "b": "b"})
        self.same(handovers(race, "a", 0, 10 ** 30), [])


class Errors(Case):
    def faults(self, *, most):
        found = [({"start": time}, InvalidTime, {}) for time in NO_TIMES]
        found += [({"end": time}, InvalidTime, {}) for time in NO_TIMES]
        found += [({"start": 5, "end": 4}, InvalidWindow, {}), ({"start": (1, 2), "end": (1, 3)}, InvalidWindow, {})]
        return found + [({"end": most}, LimitExceeded, {"limit": 2000})]

    def test_errors_in_order(self):
        race = Race(1, {"a": (0, [(0, 0)]), "b": ((1, 2), [(0, 1001)]), "c": ((1, 3), [(0, 1)])})
        names = [({"name": name}, UnknownName, {"name": name}) for name in NO_NAMES]
        self.errors_in_order(relay_map, {"race": race, "start": 0, "end": (1, 2)}, self.faults(most=BIG))
        for call in (carrier, handovers):
            good = {"race": race, "name": "a", "start": 0, "end": (1, 2)}
            self.errors_in_order(call, good, names + self.faults(most=BIG))

    def test_names_of_parameters_and_new_results(self):
        race = sample()
        self.same(relay_map(race=race, start=0, end=2), {"a": "b", "b": "a", "c": "c", "d": "d"})
        self.same(carrier(race=race, name="a", start=0, end=2), "b")
        self.same(handovers(race=race, name="a", start=0, end=2), [((2, 1), "a", "b")])
        relay_map(race, 0, 2).clear()
        handovers(race, "a", 0, 2).clear()
        self.same(relay_map(race, 0, 2), {"a": "b", "b": "a", "c": "c", "d": "d"})
        self.same(handovers(race, "a", 0, 2), [((2, 1), "a", "b")])
        self.assertEqual(race, sample())
        self.same(listed_passes(race, 0, 2), [((2, 1), "a", "b")])
