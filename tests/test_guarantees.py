"""Point 3: what must hold between a race and the races that come from it, for places, orders, gaps and passes."""

from fractions import Fraction

from laprunners.exchanges import pass_parity, snapshot
from laprunners.gaps import count_gap, first_gap_time, gap_times
from laprunners.passes import all_passes, pass_table, passes
from laprunners.races import Race
from laprunners.standings import gap, order_after, runners_ahead, standing
from tests.support import BIG, Case, fraction, pairs_of, ratio_of, small_races, split_pieces

TIMES = [0, (1, 2), 1, 3, (16, 3), 6, 7, (61, 8), 30, BIG]
WINDOWS = [(0, 9), (0, 3), ((1, 2), (16, 3)), (3, 7), (6, 6), (7, 40), (BIG, BIG + 5), (0, BIG)]
SHORT_WINDOWS = WINDOWS[:-1]
FACTORS = [2, (1, 3), (7, 5), BIG, (1, BIG)]


def times_number(number, factor):
    return ratio_of(fraction(number) * fraction(factor))


def values_of(length):
    """Gaps of a ring: 0 and greater ones."""
    return [ratio_of(fraction(length) * share) for share in (0, Fraction(1, 4), Fraction(2, 3))]


class Split(Case):
    """Splitting a piece at which the speed remains the same changes nothing."""

    def answers(self, race):
        found = []
        for time in TIMES:
            found += [standing(race, time), order_after(race, time), snapshot(race, time).rows()]
            found += [runners_ahead(race, name, time) for name in race.names()]
        for window in WINDOWS:
            found += [pass_table(race, *window), all_passes(race, *window)]
        for pair in pairs_of(race.names()):
            found += [gap(race, *pair, time) for time in TIMES]
            for value in values_of(race.length):
                found += [count_gap(race, *pair, value, *window) for window in WINDOWS]
                found += [gap_times(race, *pair, value, *window) for window in SHORT_WINDOWS]
                found += [first_gap_time(race, *pair, value, time) for time in TIMES]
        return found

    def test_split_pieces(self):
        for length, runners in small_races(25, 31):
            one, two = Race(length, runners), Race(length, split_pieces(runners))
            self.assertNotEqual(one, two)
            self.same(self.answers(two), self.answers(one))

    def test_changed_at_the_same_speed(self):
        for length, runners in small_races(10, 32):
            race = Race(length, runners)
            name = race.names()[0]
            for time in (1, (7, 2), 9):
                last = race.pieces(name)[-1]
                if fraction(last[0]) <= fraction(time):
                    self.same(self.answers(race.changed(name, time, last[1])), self.answers(race))


class Scaled(Case):
    """All lengths and starts, or all speeds and times, may be scaled."""

    def test_lengths_and_starts(self):
        for length, runners in small_races(15, 33):
            race = Race(length, runners)
            for factor in FACTORS:
                rows = {}
                for name, (start, pieces) in runners.items():
                    fast = [(time, times_number(speed, factor)) for time, speed in pieces]
                    rows[name] = (times_number(start, factor), fast)
                self.check(race, Race(times_number(length, factor), rows), factor)

    def check(self, race, great, factor):
        for time in TIMES:
            rows = [(times_number(place, factor), names) for place, names in standing(race, time)]
            self.same(standing(great, time), rows)
            self.same(order_after(great, time), order_after(race, time))
            laps = {name: laps for name, (_, laps) in snapshot(race, time).rows().items()}
            self.same({name: laps for name, (_, laps) in snapshot(great, time).rows().items()}, laps)
        for window in WINDOWS:
            self.same(pass_table(great, *window), pass_table(race, *window))
        for pair in pairs_of(race.names()):
            for value in values_of(race.length):
                more = times_number(value, factor)
                for window in SHORT_WINDOWS:
                    self.same(gap_times(great, *pair, more, *window), gap_times(race, *pair, value, *window))
                self.same(first_gap_time(great, *pair, more, 3), first_gap_time(race, *pair, value, 3))

    def test_times_and_speeds(self):
        for length, runners in small_races(15, 34):
            race = Race(length, runners)
            for factor in FACTORS:
                self.check_slowed(race, race.slowed(factor), factor)

    def check_slowed(self, race, slow, factor):
        for time in TIMES:
            late = times_number(time, factor)
            self.same(standing(slow, late), standing(race, time))
            self.same(order_after(slow, late), order_after(race, time))
            self.assertEqual(snapshot(slow, late), snapshot(race, time))
        for window in WINDOWS:
            late_window = [times_number(time, factor) for time in window]
            self.same(pass_table(slow, *late_window), pass_table(race, *window))
            self.same(all_passes(slow, *late_window), all_passes(race, *window))
            for pair in pairs_of(race.names())[:3]:
                for value in values_of(race.length):
                    many = count_gap(race, *pair, value, *window)
                    self.same(count_gap(slow, *pair, value, *late_window), many)
                    if many < 2000:
                        times = gap_times(race, *pair, value, *window)
                        self.same(gap_times(slow, *pair, value, *late_window),
                                  [times_number(time, factor) for time in times])


class Turned(Case):
    """Shifted starts change places only."""

    def test_shifted_starts(self):
        for length, runners in small_races(15, 35):
            race = Race(length, runners)
            for shift in (1, (1, 3), -2, BIG, (-1, BIG)):
                self.check(race, race.turned(shift), shift)

    def check(self, race, turned, shift):
        length = fraction(race.length)
        for time in TIMES:
            rows = {ratio_of((fraction(place) + fraction(shift)) % length): names for place, names in standing(race, time)}
            self.assertEqual(dict(standing(turned, time)), rows)
            for name in race.names():
                self.same(runners_ahead(turned, name, time), runners_ahead(race, name, time))
        for window in WINDOWS:
            self.same(pass_table(turned, *window), pass_table(race, *window))
        for pair in pairs_of(race.names()):
            self.same([gap(turned, *pair, time) for time in TIMES], [gap(race, *pair, time) for time in TIMES])
            for value in values_of(race.length):
                for window in SHORT_WINDOWS:
                    self.same(gap_times(turned, *pair, value, *window), gap_times(race, *pair, value, *window))
                self.same(first_gap_time(turned, *pair, value, 0), first_gap_time(race, *pair, value, 0))
        self.same_net_passes(race, turned)

    def same_net_passes(self, race, turned):
        free = [time for time in TIMES if len(standing(race, time)) == len(race)]
        for start, end in zip(free, free[1:]):
            self.same(snapshot(turned, end) - snapshot(turned, start), snapshot(race, end) - snapshot(race, start))
            self.same(pass_parity(snapshot(turned, end), snapshot(turned, start)),
                      pass_parity(snapshot(race, end), snapshot(race, start)))


class LeftOut(Case):
    """The other runners do as before if one is left out."""

    def test_a_runner_left_out(self):
        for length, runners in small_races(20, 36):
            race = Race(length, runners)
            for name in race.names():
                fewer = race.without(name)
                for window in WINDOWS:
                    wanted = {pair: many for pair, many in pass_table(race, *window).items() if name not in pair}
                    self.same(pass_table(fewer, *window), wanted)
                    self.same(all_passes(fewer, *window), sum(wanted.values()))
                for pair in pairs_of(fewer.names()):
                    for value in values_of(length):
                        self.same(gap_times(fewer, *pair, value, 0, 9), gap_times(race, *pair, value, 0, 9))
                for time in TIMES:
                    rows = snapshot(race, time).rows()
                    del rows[name]
                    self.same(snapshot(fewer, time).rows(), rows)


class Renamed(Case):
    """New names change nothing but names."""

    NAMES = {"a": "q", "b": "zz", "c1": "a", "d": "b9"}

    def test_new_names(self):
        for length, runners in small_races(20, 37):
            race = Race(length, runners)
            names = {name: self.NAMES[name] for name in race.names()}
            other = race.renamed(names)
            for window in WINDOWS:
                table = pass_table(other, *window)
                wanted = {(names[over], names[under]): many for (over, under), many in pass_table(race, *window).items()}
                self.assertEqual(table, wanted)
                self.assertEqual(list(table), sorted(wanted))
            for pair in pairs_of(race.names()):
                others = [names[name] for name in pair]
                self.same(passes(other, *others, 0, BIG), passes(race, *pair, 0, BIG))
                for value in values_of(length):
                    self.same(gap_times(other, *others, value, 0, 9), gap_times(race, *pair, value, 0, 9))
            for time in TIMES:
                rows = {names[name]: row for name, row in snapshot(race, time).rows().items()}
                self.assertEqual(snapshot(other, time).rows(), rows)
                wanted = [sorted(names[name] for name in group) for group in order_after(race, time)]
                self.same(order_after(other, time), wanted)


class ReversedRing(Case):
    """On the reversed ring every pass goes the other way."""

    def test_passes_and_gaps(self):
        for length, runners in small_races(20, 38):
            race = Race(length, runners)
            other = race.reversed_ring()
            for window in WINDOWS:
                wanted = {(under, over): many for (over, under), many in pass_table(race, *window).items()}
                self.assertEqual(pass_table(other, *window), wanted)
                self.same(all_passes(other, *window), all_passes(race, *window))
            for first, second in pairs_of(race.names()):
                self.same(passes(other, first, second, 0, BIG), passes(race, second, first, 0, BIG))
                for time in TIMES:
                    self.same(gap(other, first, second, time), gap(race, second, first, time))
                for value in values_of(length):
                    self.same(gap_times(other, first, second, value, 0, 9), gap_times(race, second, first, value, 0, 9))

    def test_places_and_net_passes(self):
        for length, runners in small_races(20, 39):
            race = Race(length, runners)
            other = race.reversed_ring()
            free = [time for time in TIMES if len(standing(race, time)) == len(race)]
            for time in TIMES:
                rows = {ratio_of(-fraction(place) % fraction(length)): names for place, names in standing(race, time)}
                self.assertEqual(dict(standing(other, time)), rows)
            for start, end in zip(free, free[1:]):
                net = snapshot(race, end) - snapshot(race, start)
                self.same(snapshot(other, end) - snapshot(other, start), {pair: -many for pair, many in net.items()})


class BothWays(Case):
    """The gaps from a first to a second runner and back add up to the length, or are both 0."""

    def test_gaps_back(self):
        for length, runners in small_races(15, 40):
            race = Race(length, runners)
            for first, second in pairs_of(runners):
                for value in values_of(length):
                    back = ratio_of(-fraction(value) % fraction(length))
                    for window in SHORT_WINDOWS:
                        self.same(gap_times(race, first, second, value, *window),
                                  gap_times(race, second, first, back, *window))
                    if value == (0, 1):
                        both = passes(race, first, second, 0, BIG) + passes(race, second, first, 0, BIG)
                        self.same(count_gap(race, first, second, 0, 0, BIG), both)


class EarlierCalls(Case):
    """Results do not depend on earlier calls, and no race changes."""

    def test_calls_in_another_order(self):
        for length, runners in small_races(10, 41):
            race, twin = Race(length, runners), Race(length, runners)
            pair = tuple(race.names()[:2])
            calls = [
                lambda one, at=at: call_of(one, pair, at) for at in range(8)
            ]
            forward = [call(race) for call in calls]
            backward = [call(twin) for call in calls[::-1]][::-1]
            self.same(forward, backward)
            self.same([call(race) for call in calls], forward)
            self.assertEqual(race, twin)


def call_of(race, pair, at):
    """One of eight results of a race."""
    return [
        lambda: pass_table(race, 0, 9), lambda: all_passes(race, 2, BIG), lambda: passes(race, *pair, 1, 30),
        lambda: count_gap(race, *pair, 0, 0, BIG), lambda: gap_times(race, *pair, 0, 0, 9),
        lambda: first_gap_time(race, *pair, 0, 4), lambda: snapshot(race, 5).rows(), lambda: standing(race, 5),
    ][at]()
