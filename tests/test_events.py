"""Point 15: the passes of a race in order, at a time, with a number, and in a window."""

from fractions import Fraction

from laprunners.errors import InvalidCount, InvalidTime, InvalidWindow, LimitExceeded
from laprunners.events import listed_passes, nth_pass, pass_times, passes_at
from laprunners.passes import all_passes, pass_table
from laprunners.races import Race
from tests.models import model_events
from tests.support import BIG, NO_TIMES, Case, crowd, fraction, ratio_of, small_races

WINDOWS = [(0, 12), (0, 3), (1, (7, 2)), (4, 5), (6, 12), (0, 0), (7, 7), ((5, 2), 9)]
NO_COUNTS = [None, True, False, 0, -1, -BIG, "1", (1, 1), (3, 2), [], [1], {}, 1.5, object]


def sample():
    """The race of the document."""
    return Race(10, {"a": (0, [(0, 3)]), "b": (5, [(0, 1)])})


def crossing():
    """All four runners are at place 0 at times 1, 2, 3 and so on; two of them have the same speed."""
    return Race(1, {"d": (0, [(0, 2)]), "b": (0, [(0, 0)]), "c": (0, [(0, 1)]), "a": ((1, 2), [(0, (1, 2))])})


def exact(events):
    """Passes of a model with ratios."""
    return [(ratio_of(time), over, under) for time, over, under in events]


class ByModel(Case):
    def check_window(self, race, events, start, end):
        wanted = exact(event for event in events if fraction(start) < event[0] <= fraction(end))
        self.same(listed_passes(race, start, end), wanted)
        self.same(pass_times(race, start, end), list(dict.fromkeys(event[0] for event in wanted)))

    def check_numbers(self, race, events, after, last):
        wanted = exact(event for event in events if event[0] > fraction(after))
        for number, event in enumerate(wanted, start=1):
            self.same(nth_pass(race, number, after=after), event)
        more = nth_pass(race, len(wanted) + 1, after=after)
        self.assertTrue(more is None or fraction(more[0]) > last)

    def check_times(self, race, events):
        times = {Fraction(0), Fraction(1, 2), *[fraction(time) for time in race.change_times()], *[e[0] for e in events]}
        for time in sorted(times)[:60]:
            wanted = [event[1:] for event in events if event[0] == time]
            self.same(passes_at(race, ratio_of(time)), wanted)

    def test_small_races(self):
        for length, runners in small_races(40, 71):
            with self.subTest(length=length, runners=runners):
                race, events = Race(length, runners), model_events(length, runners, 0, 12)
                for window in WINDOWS:
                    self.check_window(race, events, *window)
                for after in (0, (5, 2), 4):
                    self.check_numbers(race, events, after, 12)
                self.check_times(race, events)

    def test_windows_that_begin_and_end_at_passes_and_changes(self):
        for length, runners in small_races(12, 72):
            race, events = Race(length, runners), model_events(length, runners, 0, 12)
            times = sorted({*[event[0] for event in events][:6], *[fraction(time) for time in race.change_times()][:4]})
            for start in times:
                for end in times:
                    if start <= end:
                        self.check_window(race, events, ratio_of(start), ratio_of(end))
                self.check_numbers(race, events, ratio_of(start), 12)

    def test_a_crowd(self):
        runners = crowd(12, 5)
        race, events = Race((7, 2), runners), model_events((7, 2), runners, 0, 9)
        self.check_window(race, events, 0, 9)
        self.check_numbers(race, events, 0, 9)
        self.check_times(race, events)

    def test_numbers_of_different_units(self):
        runners = {"a": ((1, 3), [(0, (1, 7)), ((5, 2), (-31, 5)), ((31, 11), (4, 9))]),
                   "b": ((-5, 4), [(0, (2, 3)), ((8, 3), (2, 13))]), "c": (0, [(0, (-1, 2)), (6, 0)]),
                   "d": (0, [(0, (11, 6))])}
        race, events = Race((3, 7), runners), model_events((3, 7), runners, 0, 12)
        self.check_window(race, events, 0, 12)
        self.check_numbers(race, events, 0, 12)
        self.check_times(race, events)


class Order(Case):
    def test_several_passes_at_one_time(self):
        at_one = [("a", "b"), ("c", "a"), ("c", "b"), ("d", "a"), ("d", "b"), ("d", "c")]
        self.same(passes_at(crossing(), 1), at_one)
        self.same([(over, under) for time, over, under in listed_passes(crossing(), 0, 1) if time == (1, 1)], at_one)
        before = all_passes(crossing(), 0, (99, 100))
        for number, pair in enumerate(at_one, start=before + 1):
            self.same(nth_pass(crossing(), number), ((1, 1), *pair))
        self.same(nth_pass(crossing(), 1, after=1), nth_pass(crossing(), before + 7))

    def test_order_by_the_first_name_then_by_the_other_one(self):
        race = Race(10, {"b": (0, [(0, 3)]), "a": (9, [(0, 0)]), "c": (6, [(0, 1)]), "d": (0, [(0, 3)])})
        self.same(listed_passes(race, 0, 3), [
            ((3, 1), "b", "a"), ((3, 1), "b", "c"), ((3, 1), "c", "a"), ((3, 1), "d", "a"), ((3, 1), "d", "c"),
        ])
        self.same(pass_times(race, 0, 3), [(3, 1)])

    def test_two_meetings_at_different_places_at_one_time(self):
        race = Race(10, {"a": (0, [(0, 1)]), "b": (2, [(0, 0)]), "x": (5, [(0, 0)]), "c": (7, [(0, -1)])})
        self.same(listed_passes(race, 0, 2), [((2, 1), "a", "b"), ((2, 1), "x", "c")])
        self.same(passes_at(race, 2), [("a", "b"), ("x", "c")])

    def test_runners_side_by_side_do_not_pass_each_other(self):
        race = Race(10, {"a": (0, [(0, 1)]), "b": (0, [(0, 1)]), "c": (2, [(0, 0)])})
        self.same(passes_at(race, 2), [("a", "c"), ("b", "c")])
        self.same(passes_at(race, 1), [])

    def test_time_zero(self):
        race = Race(10, {"a": (0, [(0, 1)]), "b": (10, [(0, 2)])})
        self.same(passes_at(race, 0), [])
        self.same(listed_passes(race, 0, 9), [])
        self.same(listed_passes(race, 0, 10), [((10, 1), "b", "a")])
        self.same(nth_pass(race, 1), ((10, 1), "b", "a"))
        self.same(passes_at(race, 10), [("b", "a")])

    def test_changes_of_speed(self):
        # At time 2 a is at the place of b and falls back; the speed just before counts.
        race = Race(10, {"a": (0, [(0, 1), (2, -1)]), "b": (2, [(0, 0)])})
        self.same(passes_at(race, 2), [("a", "b")])
        self.same(listed_passes(race, 0, 10), [((2, 1), "a", "b")])
        self.same(nth_pass(race, 1), ((2, 1), "a", "b"))
        self.same(nth_pass(race, 1, after=2), ((12, 1), "b", "a"))
        self.same(passes_at(race, 12), [("b", "a")])
        # At time 2 both are at one place and had the same speed before.
        race = Race(10, {"a": (0, [(0, 1), (2, 2)]), "b": (0, [(0, 1)])})
        self.same(passes_at(race, 2), [])
        self.same(listed_passes(race, 0, 11), [])
        self.same(listed_passes(race, 0, 12), [((12, 1), "a", "b")])

    def test_example_of_the_document(self):
        self.same((listed_passes(sample(), 0, 10), nth_pass(sample(), 10 ** 20)[0]),
                  ([((5, 2), "a", "b"), ((15, 2), "a", "b")], (999999999999999999995, 2)))

    def test_one_runner(self):
        race = Race(10, {"a": (0, [(0, 1), (2, -1)])})
        self.same([passes_at(race, 2), listed_passes(race, 0, BIG), pass_times(race, 0, BIG)], [[], [], []])
        self.assertIsNone(nth_pass(race, 1))
        self.assertIsNone(nth_pass(race, 10 ** 20, after=BIG))


class GreatNumbers(Case):
    def test_numbers_up_to_twenty_digits(self):
        for number in (1, 2, 3, 1000, 10 ** 20 - 1, 10 ** 20):
            self.same(nth_pass(sample(), number), (ratio_of(Fraction(5, 2) + 5 * (number - 1)), "a", "b"))
            self.same(nth_pass(sample(), number, after=BIG)[1:], ("a", "b"))
            self.same(nth_pass(sample(), number, after=(5, 2)), (ratio_of(Fraction(5, 2) + 5 * number), "a", "b"))

    def test_the_pass_with_a_number_has_so_many_passes_before_it(self):
        races = [Race(length, runners) for length, runners in small_races(25, 73)] + [crossing(), Race((7, 2), crowd(12, 5))]
        for race in races:
            for after in (0, (9, 2), BIG):
                for number in (1, 7, 66, 1001, 10 ** 12 + 1, 10 ** 20):
                    self.check_number(race, number, after)

    def check_number(self, race, number, after):
        found = nth_pass(race, number, after=after)
        if found is None:
            self.assertEqual(all_passes(race, after, 10 ** 58), all_passes(race, after, 10 ** 59))
            self.assertLess(all_passes(race, after, 10 ** 59), number)
            return
        time, over, under = found
        before = all_passes(race, after, time) - len(passes_at(race, time))
        self.same(passes_at(race, time)[number - before - 1], (over, under))

    def test_slow_and_fast_pairs(self):
        race = Race(1, {"a": (0, [(0, 0)]), "b": ((1, 2), [(0, (1, BIG))]), "c": ((1, 3), [(0, BIG)])})
        self.same(nth_pass(race, 10 ** 20)[1], "c")
        for number in (1, 2, 3, 10 ** 20, 2 * BIG, BIG * BIG, BIG ** 3):
            self.check_number(race, number, 0)

    def test_only_a_few_passes_in_early_pieces(self):
        race = Race(10, {"a": (0, [(0, 1), (25, 0), (BIG, 3)]), "b": (5, [(0, 0)])})
        self.same([nth_pass(race, number)[0] for number in (1, 2, 3)], [(5, 1), (15, 1), (25, 1)])
        self.same(nth_pass(race, 4), ((3 * BIG + 10, 3), "a", "b"))
        self.same(nth_pass(race, 4 + 3 * 10 ** 19)[0], ratio_of(BIG + Fraction(10, 3) + 10 ** 20))

    def test_none_if_there_are_fewer(self):
        race = Race(10, {"a": (0, [(0, 1), (25, 0)]), "b": (5, [(0, 0)])})
        self.same(nth_pass(race, 3), ((25, 1), "a", "b"))
        self.assertIsNone(nth_pass(race, 4))
        self.assertIsNone(nth_pass(race, 10 ** 20))
        self.assertIsNone(nth_pass(race, 3, after=5))
        self.same(nth_pass(race, 2, after=5), ((25, 1), "a", "b"))
        self.assertIsNone(nth_pass(race, 1, after=25))

    def test_windows_of_thirty_digits(self):
        race = Race(10, {"a": (0, [(0, 1), (25, 0), (BIG, 3)]), "b": (5, [(0, 0)])})
        self.same(pass_times(race, 0, 10 ** 29), [(5, 1), (15, 1), (25, 1)])
        self.same(len(listed_passes(race, BIG - 1, BIG + 6000)), 1800)
        self.fails(LimitExceeded, pass_times, race, 0, 10 ** 30, limit=2000)
        start = 10 ** 30
        self.same(pass_times(sample(), start, start + 10), [(2 * start + 5, 2), (2 * start + 15, 2)])
        slow = Race(10 ** 28, {"a": (0, [(0, 1)]), "b": (5, [(0, 0)])})
        self.same(pass_times(slow, 0, 10 ** 30), [(5 + at * 10 ** 28, 1) for at in range(100)])


class Limits(Case):
    def test_exactly_2000_and_2001_passes(self):
        for call in (pass_times, listed_passes):
            self.same(len(call(sample(), 0, 10000)), 2000)
            self.same(len(call(sample(), (5, 2), (20005, 2))), 2000)
            self.fails(LimitExceeded, call, sample(), 0, (20005, 2), limit=2000)
            self.fails(LimitExceeded, call, sample(), 0, 10 ** 30, limit=2000)

    def test_passes_count_and_not_times(self):
        # At each of the times 1, 2, 3 and so on, there are 3 passes; 667 times have 2001.
        race = Race(1, {"a": (0, [(0, 1)]), "b": (0, [(0, 1)]), "c": (0, [(0, 1)]), "d": (0, [(0, 0)])})
        self.same(pass_times(race, 0, 666), [(at, 1) for at in range(1, 667)])
        self.same(len(listed_passes(race, 0, 666)), 1998)
        for call in (pass_times, listed_passes):
            self.fails(LimitExceeded, call, race, 0, 667, limit=2000)

    def test_over_changes_of_speed(self):
        race = Race(1, {"a": (0, [(0, 1), (1000, -2)]), "b": (0, [(0, 0)])})
        self.same(listed_passes(race, 0, 1500)[999:1001], [((1000, 1), "a", "b"), ((2001, 2), "b", "a")])
        self.same(len(pass_times(race, 0, 1500)), 2000)
        self.fails(LimitExceeded, pass_times, race, 0, (3001, 2), limit=2000)
        self.fails(LimitExceeded, listed_passes, race, 0, (3001, 2), limit=2000)


class Agreement(Case):
    """Numbers of passes, tables and passes with numbers agree with the list of all passes."""

    def test_agreement(self):
        for length, runners in small_races(20, 74):
            race = Race(length, runners)
            for start, end in ((0, 40), (3, 20)):
                listed = listed_passes(race, start, end)
                self.same(all_passes(race, start, end), len(listed))
                table = {}
                for _, over, under in listed:
                    table[(over, under)] = table.get((over, under), 0) + 1
                self.same(pass_table(race, start, end), {pair: table[pair] for pair in sorted(table)})
                for number in range(1, len(listed) + 1, 3):
                    self.same(nth_pass(race, number, after=start), listed[number - 1])
                for time in pass_times(race, start, end):
                    self.same(passes_at(race, time), [event[1:] for event in listed if event[0] == time])


class Errors(Case):
    def test_windows(self):
        faults = [({"start": time}, InvalidTime, {}) for time in NO_TIMES]
        faults += [({"end": time}, InvalidTime, {}) for time in NO_TIMES]
        faults += [({"start": 5, "end": 4}, InvalidWindow, {}), ({"start": (1, 2), "end": (1, 3)}, InvalidWindow, {})]
        faults += [({"end": BIG}, LimitExceeded, {"limit": 2000})]
        for call in (pass_times, listed_passes):
            self.errors_in_order(call, {"race": sample(), "start": 0, "end": 9}, faults)

    def test_numbers_and_times(self):
        faults = [({"number": number}, InvalidCount, {}) for number in NO_COUNTS]
        faults += [({"after": time}, InvalidTime, {}) for time in NO_TIMES]
        self.errors_in_order(nth_pass, {"race": sample(), "number": 1, "after": 0}, faults)
        self.errors_in_order(passes_at, {"race": sample(), "time": 0}, [({"time": time}, InvalidTime, {}) for time in NO_TIMES])
        with self.assertRaises(TypeError):
            nth_pass(sample(), 1, 0)

    def test_names_of_parameters(self):
        self.same(passes_at(race=sample(), time=(5, 2)), [("a", "b")])
        self.same(nth_pass(race=sample(), number=2, after=0), ((15, 2), "a", "b"))
        self.same(pass_times(race=sample(), start=0, end=10), [(5, 2), (15, 2)])
        self.same(listed_passes(race=sample(), start=0, end=5), [((5, 2), "a", "b")])

    def test_results_are_new(self):
        race = sample()
        for call in (lambda: passes_at(race, (5, 2)), lambda: pass_times(race, 0, 9), lambda: listed_passes(race, 0, 9)):
            first = call()
            first.append("more")
            self.same(call(), first[:-1])
        self.assertEqual(race, sample())
