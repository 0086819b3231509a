"""Point 10: how often runners pass each other."""

from fractions import Fraction

from laprunners import passes as passes_file
from laprunners.errors import InvalidTime, InvalidWindow, UnknownName
from laprunners.passes import all_passes, pass_table, passes
from laprunners.races import Race
from tests.support import (
    BIG, NO_NAMES, NO_TIMES, Case, crowd, fraction, model_passes, pairs_of, ratio_of, small_races,
)


def sample():
    """Runner a passes b every 5, from 5 / 2 on, up to time 4; then every 2, from 27 / 5 on."""
    return Race(10, {"a": (0, [(0, 3)]), "b": (5, [(0, 1), (4, -2)])})


def moments_of(race, meetings):
    """Times at, before and after changes of speeds and meetings, from 0 on."""
    times = {Fraction(0), Fraction(9)} | {fraction(time) for time in race.change_times()} | set(meetings)
    between = {(one + two) / 2 for one, two in zip(sorted(times), sorted(times)[1:])}
    return sorted(times | between)


class Counting(Case):
    def check(self, race, model, start, end):
        """Check all functions for a window against the times of all passes up to time 20."""
        wanted = {}
        for pair in sorted(model):
            count = len([time for time in model[pair] if fraction(start) < time <= fraction(end)])
            self.same(passes(race, *pair, start, end), count)
            if count:
                wanted[pair] = count
        self.same(pass_table(race, start, end), wanted)
        self.same(all_passes(race, start, end), sum(wanted.values()))

    def model(self, length, runners):
        return {pair: model_passes(length, runners, *pair, 0, 20) for pair in pairs_of(runners)}

    def test_all_passes_piece_by_piece(self):
        for length, runners in small_races(50, 11):
            race, model = Race(length, runners), self.model(length, runners)
            for start, end in ((0, 20), (0, 3), (1, (7, 2)), (4, 5), (6, 19)):
                self.check(race, model, start, end)

    def test_windows_that_begin_and_end_anywhere(self):
        for length, runners in small_races(10, 12):
            race, model = Race(length, runners), self.model(length, runners)
            meetings = sorted({time for times in model.values() for time in times})
            times = moments_of(race, meetings[:8])
            for at, start in enumerate(times):
                for end in times[at:]:
                    self.check(race, model, ratio_of(start), ratio_of(end))

    def test_a_crowd(self):
        made = crowd(12, 5)
        race, model = Race((7, 2), made), self.model((7, 2), made)
        self.check(race, model, 0, 20)
        self.check(race, model, (5, 2), 9)

    def test_example_of_the_document(self):
        self.same(pass_table(sample(), 0, 10), {("a", "b"): 4})
        self.same(passes(sample(), "a", "b", 0, 10), 4)
        self.same(passes(sample(), "b", "a", 0, 10), 0)
        self.same(all_passes(sample(), 0, 10), 4)

    def test_ends_belong_to_windows_and_starts_do_not(self):
        self.same([passes(sample(), "a", "b", *window) for window in (
            (0, (5, 2)), ((5, 2), (27, 5)), ((5, 2), (53, 10)), (0, (49, 20)), ((5, 2), (5, 2)), ((27, 5), 7),
        )], [1, 1, 0, 0, 0, 0])

    def test_one_runner(self):
        race = Race(1, {"a": (0, [(0, 5)])})
        self.same(pass_table(race, 0, BIG), {})
        self.same(all_passes(race, 0, BIG), 0)
        self.same(passes(race, "a", "a", 0, BIG), 0)


class Changes(Case):
    def count(self, over, under, start, end, length=10):
        """The passes in both directions, and all together."""
        race = Race(length, {"a": over, "b": under})
        found = [passes(race, "a", "b", start, end), passes(race, "b", "a", start, end)]
        self.same(all_passes(race, start, end), sum(found))
        return found

    def test_nobody_passes_at_time_zero(self):
        self.same(self.count((0, [(0, 2)]), (0, [(0, 1)]), 0, 9), [0, 0])
        self.same(self.count((0, [(0, 2)]), (0, [(0, 1)]), 0, 10), [1, 0])
        self.same(self.count((0, [(0, 1)]), (10, [(0, 2)]), 0, 10), [0, 1])

    def test_catching_up_at_a_change_and_falling_back(self):
        over, under = (0, [(0, 1), (5, -1)]), (5, [(0, 0)])
        self.same(self.count(over, under, 0, 9), [1, 0])
        self.same(self.count(over, under, 5, 9), [0, 0])
        self.same(self.count(over, under, 4, 5), [1, 0])
        self.same(self.count(over, under, 0, 15), [1, 1])

    def test_catching_up_at_a_change_and_staying(self):
        over, under = (0, [(0, 1), (5, 0)]), (5, [(0, 0)])
        self.same(self.count(over, under, 0, BIG), [1, 0])
        self.same(self.count(over, under, 5, BIG), [0, 0])
        self.same(self.count((0, [(0, 1), (5, 0), (8, 1)]), under, 5, 8), [0, 0])
        self.same(self.count((0, [(0, 1), (5, 0), (8, 1)]), under, 0, 18), [2, 0])
        self.same(self.count((0, [(0, 1), (5, 0), (8, -1)]), under, 5, 18), [0, 1])

    def test_the_speed_just_before_counts(self):
        # At time 5 they meet; a is faster before, b is faster from then on.
        over, under = (0, [(0, 1), (5, 2)]), (5, [(0, 0), (5, 3)])
        self.same(self.count(over, under, 0, 5), [1, 0])
        self.same(self.count(over, under, 5, 14), [0, 0])
        self.same(self.count(over, under, 5, 15), [0, 1])

    def test_equal_speeds_before_a_change(self):
        race = (0, [(0, 1), (3, 2)]), (0, [(0, 1), (3, 1)])
        self.same(self.count(*race, 0, 3), [0, 0])
        self.same(self.count(*race, 0, 12), [0, 0])
        self.same(self.count(*race, 0, 13), [1, 0])

    def test_runners_who_stay_together(self):
        self.same(self.count((0, [(0, 3)]), (0, [(0, 3)]), 0, BIG), [0, 0])
        self.same(self.count((0, [(0, 3), (7, -1)]), (20, [(0, 3), (2, 3), (7, -1)]), 0, BIG), [0, 0])

    def test_backward_and_standing_runners(self):
        self.same(self.count((0, [(0, -1)]), (5, [(0, -2)]), 0, 5), [1, 0])
        self.same(self.count((0, [(0, 0)]), (5, [(0, -2)]), 0, 3), [1, 0])
        self.same(self.count((0, [(0, 0)]), (5, [(0, 2)]), 0, 3), [0, 1])
        self.same(self.count((0, [(0, 3)]), (5, [(0, -2)]), 0, 3), [2, 0])


class GreatWindows(Case):
    def test_counts_of_thirty_digits(self):
        race = sample()
        self.same(passes(race, "a", "b", (27, 5), ratio_of(Fraction(27, 5) + 2 * BIG)), BIG)
        self.same(pass_table(race, 0, ratio_of(Fraction(27, 5) + 2 * BIG)), {("a", "b"): BIG + 2})
        self.same(all_passes(race, 4, 4 + 2 * BIG), BIG)

    def test_windows_far_away(self):
        far = ratio_of(Fraction(27, 5) + 2 * BIG)
        near = ratio_of(Fraction(27, 5) + 2 * BIG - Fraction(1, BIG))
        self.same(passes(sample(), "a", "b", near, far), 1)
        self.same(passes(sample(), "a", "b", far, ratio_of(fraction(far) + 2)), 1)
        self.same(pass_table(sample(), near, near), {})
        self.same(pass_table(sample(), far, ratio_of(fraction(far) + 1)), {})

    def test_adjoining_windows_add_up(self):
        for length, runners in small_races(20, 13):
            race = Race(length, runners)
            times = [0, (1, 2), 3, 5, (16, 3), 8, BIG, (BIG * 5, 3), 10 ** 30]
            whole = {}
            for start, end in zip(times, times[1:]):
                for pair, count in pass_table(race, start, end).items():
                    whole[pair] = whole.get(pair, 0) + count
            self.assertEqual(pass_table(race, times[0], times[-1]), whole)
            self.same(all_passes(race, times[0], times[-1]), sum(whole.values()))
            for pair in pairs_of(runners):
                self.same(passes(race, *pair, times[0], times[-1]), whole.get(pair, 0))

    def test_lengths_and_speeds_of_thirty_digits(self):
        race = Race((1, BIG), {"a": (0, [(0, 0)]), "b": (0, [(0, BIG), (BIG, (-1, BIG))])})
        self.same(pass_table(race, 0, BIG), {("b", "a"): BIG ** 3})
        self.same(pass_table(race, BIG, BIG + 3), {("a", "b"): 3})
        self.same(all_passes(race, 0, BIG + 3), BIG ** 3 + 3)


class Tables(Case):
    def test_pairs_are_sorted_and_those_without_passes_are_left_out(self):
        race = Race(10, {
            "c": (0, [(0, 1)]), "b2": (0, [(0, 2)]), "b": (5, [(0, 0)]), "a": (1, [(0, -1), (30, 5)]), "d": (6, [(0, 0)]),
        })
        found = pass_table(race, 0, 40)
        self.assertEqual(list(found), sorted(found))
        self.assertNotIn(("b", "d"), found)
        self.same(pass_table(race, 0, (1, 10)), {})
        self.assertEqual({pair[0] for pair in found}, {"a", "b", "b2", "c", "d"})
        self.assertNotIn(0, found.values())

    def test_all_runners_alike(self):
        self.same(pass_table(Race(10, {name: (3, [(0, 1), (4, -2)]) for name in "abcd"}), 0, BIG), {})


class Errors(Case):
    def test_names(self):
        race = sample()
        for name in NO_NAMES:
            for window in ((0, 9), (9, 0), (-1, 9), (0, None)):
                self.fails(UnknownName, passes, race, name, "b", *window, name=name)
                self.fails(UnknownName, passes, race, "b", name, *window, name=name)
                self.fails(UnknownName, passes, race, name, "no", *window, name=name)
                self.fails(UnknownName, passes, race, "no", name, *window, name="no")

    def test_times(self):
        race = sample()
        for time in NO_TIMES:
            with self.subTest(time=time):
                for window in ((time, 9), (time, time), (9, time), (0, time)):
                    self.fails(InvalidTime, passes, race, "a", "b", *window)
                    self.fails(InvalidTime, passes, race, "a", "a", *window)
                    self.fails(InvalidTime, pass_table, race, *window)
                    self.fails(InvalidTime, all_passes, race, *window)
                    self.fails(InvalidTime, all_passes, Race(1, {"a": (0, [(0, 0)])}), *window)

    def test_windows(self):
        race = sample()
        for window in ((1, 0), (BIG, 9), ((1, 2), (1, 3)), ((1, BIG), 0), (BIG + 1, BIG)):
            self.fails(InvalidWindow, passes, race, "a", "b", *window)
            self.fails(InvalidWindow, passes, race, "a", "a", *window)
            self.fails(InvalidWindow, pass_table, race, *window)
            self.fails(InvalidWindow, all_passes, race, *window)
            self.fails(InvalidWindow, all_passes, Race(1, {"a": (0, [(0, 0)])}), *window)

    def test_empty_windows(self):
        for time in (0, (5, 2), 4, (27, 5), BIG):
            self.same(passes(sample(), "a", "b", time, time), 0)
            self.same(pass_table(sample(), time, time), {})
            self.same(all_passes(sample(), time, time), 0)


class Interface(Case):
    def test_names_of_parameters(self):
        race = sample()
        self.same(passes(end=10, start=0, under="b", over="a", race=race), 4)
        self.same(pass_table(end=10, start=0, race=race), {("a", "b"): 4})
        self.same(all_passes(end=10, start=0, race=race), 4)

    def test_functions_are_defined_here(self):
        for name in ("passes", "pass_table", "all_passes"):
            self.assertEqual(getattr(passes_file, name).__module__, "laprunners.passes")

    def test_integers_and_ratios_alike(self):
        self.same(passes(sample(), "a", "b", (0, 1), (10, 1)), 4)
        self.same(pass_table(sample(), (0, 1), (10, 1)), {("a", "b"): 4})

    def test_results_are_new_and_the_race_stays(self):
        race = sample()
        found = pass_table(race, 0, 10)
        found[("b", "a")] = 3
        found[("a", "b")] = 0
        self.same(pass_table(race, 0, 10), {("a", "b"): 4})
        self.same(all_passes(race, 0, 10), 4)
        self.assertEqual(race, sample())
