"""Functions that are called many times make few calls themselves: calls are counted, as seconds differ by machine."""

import sys

from laprunners import ratios
from laprunners.cyclic_orders import cyclic_order, first_order, order_changes
from laprunners.events import listed_passes, nth_pass, pass_times, passes_at
from laprunners.gaps import count_gap, first_gap_time
from laprunners.goals import count_goal, goal_rows, goal_times, next_return, nth_goal, refusal
from laprunners.passes import all_passes, pass_table, passes
from laprunners.races import Race
from laprunners.relays import carrier, handovers, relay_map
from laprunners.standings import gap, order_after, runners_ahead, standing
from tests.support import BIG, Case

RUNNERS = {name: ((7, 3), [(0, (1, 2)), ((3, 4), (-7, 3)), ((13, 4), 4)]) for name in "abcd"}
SPREAD = {
    "a": ((1, 3), [(0, (1, 2)), ((3, 4), -1), ((13, 4), 3)]),
    "b": ((2, 3), [(0, (1, 2)), ((3, 4), -2), ((13, 4), 2)]),
    "c": ((4, 3), [(0, (1, 2)), ((3, 4), -4), ((13, 4), 0)]),
}
NUMBERS = [(7, 3), (1, 2), (-7, 3), (13, 4)]


def calls_of(call, *args):
    """How many functions a call calls, those of Python itself included."""
    events = []

    def note(_, event, __):
        if event in ("call", "c_call"):
            events.append(event)

    before = sys.getprofile()
    sys.setprofile(note)
    try:
        call(*args)
    finally:
        sys.setprofile(before)
    return len(events)


class Calls(Case):
    def few(self, most, call, *args):
        self.assertLessEqual(calls_of(call, *args), most)

    def test_standings(self):
        for runners in (RUNNERS, SPREAD):
            race = Race((5, 2), runners)
            for time in (0, (19, 2), BIG):
                self.few(80, runners_ahead, race, "b", time)
                self.few(120, order_after, race, time)
                self.few(120, standing, race, time)
                self.few(50, gap, race, "a", "b", time)

    def test_races(self):
        self.few(500, Race, (5, 2), RUNNERS)

    def test_ratios(self):
        self.few(40, ratios.in_order, NUMBERS)
        for call in (ratios.plus, ratios.minus, ratios.times, ratios.divided):
            self.few(20, call, (1, 2), (-7, 3))
        self.few(15, ratios.compare, (1, 2), (-7, 3))

    def test_long_lists(self):
        numbers = [((at * 7919) % 10007, 1) for at in range(5000)]
        self.few(10 * len(numbers), ratios.in_order, numbers)
        self.same(ratios.in_order(numbers), sorted(numbers))

    def test_great_windows_need_no_more_calls(self):
        race = Race((5, 2), SPREAD)
        for call, args in ((passes, ("b", "c")), (count_gap, ("b", "c", 1)), (pass_table, ()), (all_passes, ())):
            near = calls_of(call, race, *args, 0, 9)
            self.few(near + 5, call, race, *args, 0, 10 ** 59)
        self.few(calls_of(first_gap_time, race, "b", "c", 1, 9) + 5, first_gap_time, race, "b", "c", 1, 10 ** 59)

    def test_great_numbers_need_few_more_calls(self):
        race, pair = Race((5, 2), SPREAD), ["b", "c"]
        calls = [
            lambda great: nth_pass(race, 10 ** 20 if great else 40),
            lambda great: nth_goal(race, pair, 10 ** 20 if great else 40),
            lambda great: nth_goal(race, pair, 1, after=10 ** 59 if great else 40),
            lambda great: count_goal(race, pair, 0, 10 ** 59 if great else 40),
            lambda great: next_return(race, after=10 ** 59 if great else 40),
            lambda great: first_order(race, ["a", "c", "b"], after=10 ** 59 if great else 40),
        ]
        for call in calls:
            self.few(calls_of(call, False) + 40, call, True)
        # A map of a great window is put together from the one of a period, in as many steps as it has digits.
        self.few(calls_of(relay_map, race, 0, 40) + 3000, relay_map, race, 0, 10 ** 59)

    def test_goals_events_orders_and_relays(self):
        race = Race((5, 2), SPREAD)
        for goal in (["a", "b", "c"], {"a": 0, "b": 1, "c": 2}):
            for call, args in ((goal_rows, ()), (count_goal, (0, 12)), (goal_times, (0, 12)), (nth_goal, (9,)), (refusal, ())):
                self.few(300, call, race, goal, *args)
        for call in (pass_times, listed_passes, relay_map, order_changes):
            self.few(1500, call, race, 0, 12)
        self.few(1500, carrier, race, "a", 0, 12)
        self.few(1500, handovers, race, "a", 0, 12)
        self.few(200, passes_at, race, 7)
        self.few(600, nth_pass, race, 30)
        self.few(150, cyclic_order, race, 7)
