"""Points 9 and 10: the times at which a gap comes to a value."""

from fractions import Fraction

from laprunners import gaps
from laprunners.errors import InvalidGap, InvalidTime, InvalidWindow, LimitExceeded, UnknownName
from laprunners.gaps import count_gap, first_gap_time, gap_times
from laprunners.races import Race
from laprunners.standings import gap
from tests.support import (
    BIG, NO_NAMES, NO_NUMBERS, NO_TIMES, Case, fraction, model_meetings, pairs_of, ratio_of, small_races,
)


def sample():
    """The gap from a to b is 5 at time 0; it falls by 2 up to time 4 (to 7), and then by 5."""
    return Race(10, {"a": (0, [(0, 3)]), "b": (5, [(0, 1), (4, -2)])})


def moments_of(race, value):
    """Times at, before and after changes of speeds and meetings, from 0 on."""
    times = {Fraction(0), Fraction(9)} | {fraction(time) for time in race.change_times()}
    first, second = race.names()[:2]
    times |= {fraction(time) for time in gap_times(race, first, second, value, 0, 9)[:5]}
    between = {(one + two) / 2 for one, two in zip(sorted(times), sorted(times)[1:])}
    return [ratio_of(time) for time in sorted(times | between)]


class Counting(Case):
    def check(self, race, pair, value, meetings, start, end):
        inside = [time for time, _ in meetings if fraction(start) < time <= fraction(end)]
        self.same(gap_times(race, *pair, value, start, end), [ratio_of(time) for time in inside])
        self.same(count_gap(race, *pair, value, start, end), len(inside))

    def test_all_meetings_piece_by_piece(self):
        for length, runners in small_races(40, 1):
            race = Race(length, runners)
            for pair in pairs_of(runners):
                for share in (0, Fraction(1, 2), Fraction(999, 1000)):
                    value = ratio_of(fraction(length) * share)
                    meetings = model_meetings(length, runners, pair, value, 0, 20)
                    for start, end in ((0, 9), (2, 5), (7, 20)):
                        self.check(race, pair, value, meetings, start, end)
                    for time, _ in meetings[:9]:
                        self.same(gap(race, *pair, ratio_of(time)), value)

    def test_windows_that_begin_and_end_anywhere(self):
        for length, runners in small_races(25, 2):
            race = Race(length, runners)
            pair = tuple(race.names()[:2])
            for value in ((0, 1), ratio_of(fraction(length) / 3)):
                meetings = model_meetings(length, runners, pair, value, 0, 9)
                times = moments_of(race, value)
                for at, start in enumerate(times):
                    for end in times[at:]:
                        self.check(race, pair, value, meetings, start, end)

    def test_ends_belong_to_windows_and_starts_do_not(self):
        self.same(gap_times(sample(), "a", "b", 5, 0, 6), [(22, 5)])
        self.same(gap_times(sample(), "a", "b", 1, 0, 6), [(2, 1), (26, 5)])
        self.same(gap_times(sample(), "a", "b", 1, 2, (26, 5)), [(26, 5)])
        self.same(gap_times(sample(), "a", "b", 1, 0, (51, 10)), [(2, 1)])
        self.same(count_gap(sample(), "a", "b", 1, 2, (51, 10)), 0)

    def test_a_change_of_speed(self):
        # At time 4 the gap is 7: the speeds just before count, and it is counted once.
        self.same(gap_times(sample(), "a", "b", 7, 0, 6), [(4, 1), (6, 1)])
        self.same(gap_times(sample(), "a", "b", 7, 0, 4), [(4, 1)])
        self.same(gap_times(sample(), "a", "b", 7, 4, 6), [(6, 1)])
        self.same(gap_times(sample(), "a", "b", 7, 3, 4), [(4, 1)])

    def test_a_gap_that_comes_and_stays(self):
        race = Race(10, {"a": (0, [(0, 1), (3, 0)]), "b": (5, [(0, 0)])})
        self.same(gap_times(race, "a", "b", 2, 0, 100), [(3, 1)])
        self.same(gap_times(race, "a", "b", 2, 3, 100), [])
        self.same(first_gap_time(race, "a", "b", 2, 0), (3, 1))
        self.assertIsNone(first_gap_time(race, "a", "b", 2, 3))
        later = Race(10, {"a": (0, [(0, 1), (3, 0), (8, -1)]), "b": (5, [(0, 0)])})
        self.same(gap_times(later, "a", "b", 2, 0, 15), [(3, 1)])
        self.same(gap_times(later, "a", "b", 2, 8, 20), [(18, 1)])
        self.same(first_gap_time(later, "a", "b", 3, 3), (9, 1))

    def test_a_gap_that_comes_and_turns(self):
        race = Race(10, {"a": (0, [(0, 1), (3, -1)]), "b": (5, [(0, 0)])})
        self.same(gap_times(race, "a", "b", 2, 0, 9), [(3, 1)])
        self.same(gap_times(race, "a", "b", 3, 0, 9), [(2, 1), (4, 1)])

    def test_runners_who_stay_together(self):
        for start in (0, 3):
            race = Race(10, {"a": (0, [(0, 2)]), "b": (start, [(0, 2), (5, 2)])})
            self.same(gap_times(race, "a", "b", start, 0, BIG), [])
            self.same(count_gap(race, "a", "b", start, 0, BIG), 0)
            self.assertIsNone(first_gap_time(race, "a", "b", start, 0))

    def test_a_runner_and_itself(self):
        self.same(count_gap(sample(), "b", "b", 0, 0, BIG), 0)
        self.same(gap_times(sample(), "a", "a", 0, 0, BIG), [])
        self.assertIsNone(first_gap_time(sample(), "b", "b", 0, 0))

    def test_time_zero_does_not_count(self):
        race = Race(10, {"a": (0, [(0, 1)]), "b": (5, [(0, 0)])})
        self.same(gap_times(race, "a", "b", 5, 0, 10), [(10, 1)])
        self.same(first_gap_time(race, "a", "b", 5, 0), (10, 1))

    def test_empty_windows(self):
        for time in (0, 2, 4, (26, 5), BIG):
            for value in (0, 1, 5, 7):
                self.same(count_gap(sample(), "a", "b", value, time, time), 0)
                self.same(gap_times(sample(), "a", "b", value, time, time), [])


class GreatWindows(Case):
    def test_counts_of_thirty_digits(self):
        race = sample()
        self.same(count_gap(race, "a", "b", 7, 4, 4 + 2 * BIG), BIG)
        self.same(count_gap(race, "a", "b", 7, 0, 4 + 2 * BIG), BIG + 1)
        self.same(count_gap(race, "a", "b", (1, BIG), BIG, 3 * BIG), BIG)
        self.same(count_gap(race.slowed(BIG), "a", "b", 7, 0, 10 * BIG), 4)

    def test_windows_far_away(self):
        start, end = 4 + 2 * BIG, 4 + 2 * BIG + 3
        self.same(gap_times(sample(), "a", "b", 7, start, end), [(4 + 2 * BIG + 2, 1)])
        self.same(gap_times(sample(), "a", "b", 2, start, end), [(start + 1, 1), (start + 3, 1)])
        self.same(gap_times(sample(), "a", "b", (7 * BIG - 5, BIG), start, end),
                  [ratio_of(start + Fraction(1, BIG)), ratio_of(start + 2 + Fraction(1, BIG))])

    def test_adjoining_windows_add_up(self):
        for length, runners in small_races(20, 3):
            race = Race(length, runners)
            times = [0, (1, 2), 3, 5, (16, 3), 8, BIG, (BIG * 5, 3), 10 ** 30]
            for pair in pairs_of(runners)[:2]:
                for value in (0, ratio_of(fraction(length) / 7)):
                    parts = [count_gap(race, *pair, value, start, end) for start, end in zip(times, times[1:])]
                    self.same(count_gap(race, *pair, value, times[0], times[-1]), sum(parts))

    def test_speeds_of_thirty_digits(self):
        race = Race((BIG, 3), {"a": (0, [(0, 0)]), "b": (1, [(0, 0), (BIG, (BIG * BIG, 7))])})
        self.same(count_gap(race, "a", "b", 1, 0, BIG), 0)
        self.same(count_gap(race, "a", "b", 1, 0, BIG + 7), 3 * BIG)
        self.same(first_gap_time(race, "a", "b", 1, 0), ratio_of(BIG + Fraction(7, 3 * BIG)))


class Limits(Case):
    def test_two_thousand_times(self):
        race = sample()
        found = gap_times(race, "a", "b", 7, 4, 4 + 2 * 2000)
        self.same(found, [(4 + 2 * k, 1) for k in range(1, 2001)])
        self.fails(LimitExceeded, gap_times, race, "a", "b", 7, 4, 4 + 2 * 2001, limit=2000)
        self.fails(LimitExceeded, gap_times, race, "a", "b", 7, 0, 4 + 2 * 2000, limit=2000)
        self.fails(LimitExceeded, gap_times, race, "a", "b", 7, 0, BIG, limit=2000)
        self.same(len(gap_times(race, "a", "b", 7, 0, 4 + 2 * 1999)), 2000)

    def test_times_of_several_pieces_count_together(self):
        pieces = [(at, 1000 if at % 2 else -1000) for at in range(4)]
        race = Race(1, {"a": (0, [(0, 0)]), "b": (0, pieces)})
        self.same(len(gap_times(race, "a", "b", (1, 2), 0, 2)), 2000)
        self.fails(LimitExceeded, gap_times, race, "a", "b", (1, 2), 0, (2001, 1000), limit=2000)


class FirstTimes(Case):
    def test_the_first_of_all_times(self):
        for length, runners in small_races(25, 4):
            race = Race(length, runners)
            for pair in pairs_of(runners):
                for value in (0, ratio_of(fraction(length) / 4)):
                    for after in (0, 1, (7, 2), 6, 30):
                        self.check(race, runners, pair, value, after)

    def check(self, race, runners, pair, value, after):
        found = first_gap_time(race, *pair, value, after)
        # Two different speeds differ by at least 1 / 2: from the last change on, a length of 10 takes at most 20.
        times = model_meetings(race.length, runners, pair, value, after, ratio_of(max(fraction(after), 7) + 20))
        self.same(found, ratio_of(times[0][0]) if times else None)

    def test_after_a_time_itself(self):
        self.same(first_gap_time(sample(), "a", "b", 7, 0), (4, 1))
        self.same(first_gap_time(sample(), "a", "b", 7, (39, 10)), (4, 1))
        self.same(first_gap_time(sample(), "a", "b", 7, 4), (6, 1))
        self.same(first_gap_time(sample(), "a", "b", 7, 4 + 2 * BIG), (6 + 2 * BIG, 1))

    def test_never(self):
        race = Race(10, {"a": (0, [(0, 0)]), "b": (5, [(0, 1), (2, 0)])})
        self.assertIsNone(first_gap_time(race, "a", "b", 8, 0))
        self.assertIsNone(first_gap_time(race, "a", "b", 7, 2))
        self.same(first_gap_time(race, "a", "b", 7, 0), (2, 1))


class Values(Case):
    def test_just_below_the_length(self):
        race = Race(10, {"a": (0, [(0, 0)]), "b": (0, [(0, -1)])})
        below = ratio_of(10 - Fraction(1, BIG))
        self.same(gap_times(race, "a", "b", below, 0, 11), [(1, BIG), ratio_of(10 + Fraction(1, BIG))])
        self.same(first_gap_time(race, "a", "b", below, 1), ratio_of(10 + Fraction(1, BIG)))
        self.same(count_gap(race, "a", "b", below, 0, (1, BIG)), 1)

    def test_invalid_values(self):
        race = Race((7, 2), {"a": (0, [(0, 0)]), "b": (0, [(0, 1)])})
        values = NO_NUMBERS + [-1, (-1, 2), (-1, BIG), (7, 2), 4, BIG]
        values.append(ratio_of(Fraction(7, 2) + Fraction(1, BIG)))
        for value in values:
            with self.subTest(value=value):
                for call in (count_gap, gap_times):
                    for window in ((0, 9), (9, 0), (-1, "x"), (None, None)):
                        self.fails(InvalidGap, call, race, "a", "b", value, *window)
                self.fails(InvalidGap, first_gap_time, race, "a", "b", value, 0)
                self.fails(InvalidGap, first_gap_time, race, "a", "b", value, -1)
        self.same(count_gap(race, "a", "b", ratio_of(Fraction(7, 2) - Fraction(1, BIG)), 0, 7), 2)

    def test_integers_and_ratios_alike(self):
        race = sample()
        self.same(gap_times(race, "a", "b", (7, 1), (0, 1), (6, 1)), gap_times(race, "a", "b", 7, 0, 6))
        self.same(first_gap_time(race, "a", "b", (7, 1), (4, 1)), (6, 1))


class Errors(Case):
    def test_names(self):
        race = sample()
        for name in NO_NAMES:
            for call in (count_gap, gap_times):
                for rest in ((1, 0, 9), ("x", 0, 9), (1, -1, 9), (-1, 9, -1)):
                    self.fails(UnknownName, call, race, name, "b", *rest, name=name)
                    self.fails(UnknownName, call, race, "a", name, *rest, name=name)
                    self.fails(UnknownName, call, race, name, "no", *rest, name=name)
                    self.fails(UnknownName, call, race, "no", name, *rest, name="no")
            for rest in ((1, 0), ("x", 0), (1, -1), (-1, "x")):
                self.fails(UnknownName, first_gap_time, race, name, "b", *rest, name=name)
                self.fails(UnknownName, first_gap_time, race, "a", name, *rest, name=name)
                self.fails(UnknownName, first_gap_time, race, name, "no", *rest, name=name)

    def test_times(self):
        race = sample()
        for time in NO_TIMES:
            with self.subTest(time=time):
                for call in (count_gap, gap_times):
                    self.fails(InvalidTime, call, race, "a", "b", 1, time, 9)
                    self.fails(InvalidTime, call, race, "a", "b", 1, 0, time)
                    self.fails(InvalidTime, call, race, "a", "b", 1, time, time)
                    self.fails(InvalidTime, call, race, "a", "a", 1, 9, time)
                self.fails(InvalidTime, first_gap_time, race, "a", "b", 1, time)

    def test_windows(self):
        race = sample()
        for start, end in ((1, 0), (BIG, 9), ((1, 2), (1, 3)), ((1, BIG), 0), (BIG + 1, BIG)):
            for call in (count_gap, gap_times):
                self.fails(InvalidWindow, call, race, "a", "b", 1, start, end)
                self.fails(InvalidWindow, call, race, "b", "b", 0, start, end)

    def test_the_limit_comes_last(self):
        race = sample()
        self.fails(UnknownName, gap_times, race, "a", "c", 7, 0, BIG, name="c")
        self.fails(InvalidGap, gap_times, race, "a", "b", 10, 0, BIG)
        self.fails(InvalidWindow, gap_times, race, "a", "b", 7, BIG, 0)


class Interface(Case):
    def test_names_of_parameters(self):
        race = sample()
        self.same(count_gap(end=6, start=0, value=7, second="b", first="a", race=race), 2)
        self.same(gap_times(end=6, start=0, value=7, second="b", first="a", race=race), [(4, 1), (6, 1)])
        self.same(first_gap_time(after=0, value=7, second="b", first="a", race=race), (4, 1))

    def test_functions_are_defined_here(self):
        for name in ("count_gap", "gap_times", "first_gap_time"):
            self.assertEqual(getattr(gaps, name).__module__, "laprunners.gaps")

    def test_results_are_new_and_the_race_stays(self):
        race = sample()
        found = gap_times(race, "a", "b", 7, 0, 6)
        found.append("more")
        found[0] = "other"
        self.same(gap_times(race, "a", "b", 7, 0, 6), [(4, 1), (6, 1)])
        self.same(gap_times(race, "a", "b", 7, 0, 4), [(4, 1)])
        self.assertEqual(race, sample())
