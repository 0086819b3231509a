"""Point 3: what must hold between a race and the races that come from it, for goals, events, orders and relays."""

from itertools import permutations

from laprunners.cyclic_orders import cyclic_order, first_order, order_changes
from laprunners.errors import LimitExceeded, Tied, Together
from laprunners.events import listed_passes, nth_pass, pass_times, passes_at
from laprunners.gaps import count_gap
from laprunners.goals import count_goal, goal_times, is_refusal, next_return, nth_goal, refusal
from laprunners.passes import pass_table
from laprunners.races import Race
from laprunners.relays import carrier, handovers, relay_map
from laprunners.standings import gap
from tests.support import BIG, Case, fraction, pairs_of, ratio_of, small_races, split_pieces

TIMES = [0, (1, 2), 1, 3, (16, 3), 6, 7, (61, 8), 30]
WINDOWS = [(0, 9), ((1, 2), (16, 3)), (3, 7), (6, 6), (7, 30)]
FACTORS = [2, (1, 3), (7, 5), BIG, (1, BIG)]
PLACES = [0, (1, 2), -3, 4]


def outcome(call, *args, **named):
    """What a call returns, or its error in a tuple with its fields."""
    try:
        return call(*args, **named)
    except Together as error:
        return ("together", error.time)
    except Tied as error:
        return ("tied", error.first, error.second)
    except LimitExceeded as error:
        return ("limit", error.limit)


def without_names(found):
    """An outcome, without the names of runners who are tied."""
    return found[0] if isinstance(found, tuple) and found[0] == "tied" else found


def scaled(number, factor):
    return ratio_of(fraction(number) * fraction(factor))


def shifted(number, shift):
    return ratio_of(fraction(number) + fraction(shift))


def meetings_of(race):
    """Goals that are lists, of two and of all runners."""
    names = race.names()
    return [names[:2], tuple(names[::-1])]


def places_of(race):
    """Goals that are dicts, for one and for all runners."""
    names = race.names()
    return [{names[0]: PLACES[1]}, {names[-1]: PLACES[2], names[0]: PLACES[3]}, dict(zip(names, PLACES))]


def orders_of(race):
    """Two orders of the runners."""
    names = race.names()
    return [list(order) for order in permutations(names) if order[0] == names[0]][:4:3]


def goal_answers(race, goal):
    found = [outcome(goal_times, race, goal, *window) for window in WINDOWS]
    found += [outcome(count_goal, race, goal, 0, BIG)]
    found += [outcome(nth_goal, race, goal, number, after=after) for number in (1, 4) for after in (0, 5)]
    return found + [refusal(race, goal) is None]


def relay_answers(race):
    found = [outcome(relay_map, race, *window) for window in WINDOWS + [(0, BIG)]]
    for name in race.names():
        found += [handovers(race, name, *window) for window in WINDOWS]
        found += [outcome(carrier, race, name, 0, 12)]
    return found


def event_answers(race):
    found = [listed_passes(race, *window) for window in WINDOWS] + [pass_times(race, *window) for window in WINDOWS]
    found += [nth_pass(race, number, after=after) for number in (1, 5, 10 ** 20) for after in (0, 4)]
    return found + [passes_at(race, time) for time in TIMES + pass_times(race, 0, 6)]


def order_answers(race):
    found = [outcome(cyclic_order, race, time) for time in TIMES]
    found += [outcome(order_changes, race, *window) for window in WINDOWS]
    for order in orders_of(race):
        found += [outcome(first_order, race, order, after=after, most=most) for after in (0, 5) for most in (4, 300)]
    return found


class Split(Case):
    """Splitting a piece at which the speed remains the same changes nothing."""

    def test_split_pieces(self):
        for length, runners in small_races(20, 101):
            one, two = Race(length, runners), Race(length, split_pieces(runners))
            self.assertNotEqual(one, two)
            for answers in (event_answers, order_answers, relay_answers):
                self.same(answers(two), answers(one))
            for goal in meetings_of(one) + places_of(one):
                self.check_goal(one, two, goal)
            self.check_returns(one, two)

    def check_goal(self, one, two, goal):
        self.same(goal_answers(two, goal), goal_answers(one, goal))
        value = refusal(two, goal)
        if value is not None:
            self.assertIs(is_refusal(one, goal, value), True)

    def check_returns(self, one, two):
        for after in (0, 4, (61, 8)):
            self.same(outcome(next_return, two, after=after), outcome(next_return, one, after=after))


class Faster(Case):
    """One speed added to all speeds leaves gaps, passes, orders, meetings and handovers as they are."""

    def test_added_speeds(self):
        for length, runners in small_races(20, 102):
            race = Race(length, runners)
            for more in (1, (-2, 7), BIG, (1, BIG)):
                rows = {}
                for name, (start, pieces) in runners.items():
                    rows[name] = (start, [(time, shifted(speed, more)) for time, speed in pieces])
                self.check(race, Race(length, rows))

    def check(self, race, fast):
        for pair in pairs_of(race.names()):
            self.same([gap(fast, *pair, time) for time in TIMES], [gap(race, *pair, time) for time in TIMES])
            self.same(count_gap(fast, *pair, 0, 0, BIG), count_gap(race, *pair, 0, 0, BIG))
        self.same(pass_table(fast, 0, BIG), pass_table(race, 0, BIG))
        self.same(event_answers(fast), event_answers(race))
        self.same(relay_answers(fast), relay_answers(race))
        self.same([without_names(one) for one in order_answers(fast)], [without_names(one) for one in order_answers(race)])
        for goal in meetings_of(race):
            self.same(goal_answers(fast, goal), goal_answers(race, goal))


class Turned(Case):
    """Shifted starts shift places only."""

    def test_shifted_starts(self):
        for length, runners in small_races(20, 103):
            race = Race(length, runners)
            for shift in (1, (-1, 3), BIG, (1, BIG)):
                turned = race.turned(shift)
                self.same(event_answers(turned), event_answers(race))
                self.same(relay_answers(turned), relay_answers(race))
                self.same([without_names(one) for one in order_answers(turned)],
                          [without_names(one) for one in order_answers(race)])
                for goal in meetings_of(race):
                    self.same(goal_answers(turned, goal), goal_answers(race, goal))
                for goal in places_of(race):
                    moved = {name: shifted(place, shift) for name, place in goal.items()}
                    self.same(goal_answers(turned, moved), goal_answers(race, goal))
                self.same(outcome(next_return, turned, after=3), outcome(next_return, race, after=3))


class ReversedRing(Case):
    """On the reversed ring everything goes the other way."""

    def test_reversed(self):
        for length, runners in small_races(30, 104):
            race = Race(length, runners)
            other = race.reversed_ring()
            self.check_passes(race, other)
            self.check_orders(race, other)
            self.same(relay_answers(other), relay_answers(race))
            for goal in meetings_of(race):
                self.same(goal_answers(other, goal), goal_answers(race, goal))
            for goal in places_of(race):
                moved = {name: scaled(place, -1) for name, place in goal.items()}
                self.same(goal_answers(other, moved), goal_answers(race, goal))
            self.same(outcome(next_return, other), outcome(next_return, race))

    def check_passes(self, race, other):
        for window in WINDOWS:
            wanted = sorted((fraction(time), under, over) for time, over, under in listed_passes(race, *window))
            self.same(listed_passes(other, *window), [(ratio_of(time), *names) for time, *names in wanted])
            self.same(pass_times(other, *window), pass_times(race, *window))
        for time in TIMES + pass_times(race, 0, 6):
            self.same(passes_at(other, time), sorted((under, over) for over, under in passes_at(race, time)))
        for number in (1, 5, 10 ** 20):
            one, two = nth_pass(race, number), nth_pass(other, number)
            self.same(two and two[0], one and one[0])

    def check_orders(self, race, other):
        for time in TIMES:
            found, wanted = outcome(cyclic_order, other, time), outcome(cyclic_order, race, time)
            if isinstance(wanted, tuple):
                self.assertEqual(found[0], "tied")
            else:
                self.same(found, wanted[:1] + wanted[:0:-1])
        for order in orders_of(race):
            found = outcome(first_order, other, order[::-1], after=1, most=50)
            self.same(without_names(found), without_names(outcome(first_order, race, order, after=1, most=50)))


class Slowed(Case):
    """All times may be multiplied by a factor."""

    def test_slowed(self):
        for length, runners in small_races(15, 105):
            race = Race(length, runners)
            for factor in FACTORS:
                self.check(race, race.slowed(factor), factor)

    def check(self, race, slow, factor):
        def late(found):
            """A time or an outcome of a goal, later by the factor."""
            if found is None or isinstance(found, int):
                return found
            if isinstance(found, list):
                return [late(one) for one in found]
            return (found[0], scaled(found[1], factor)) if found[0] == "together" else scaled(found, factor)

        for start, end in WINDOWS:
            window = (scaled(start, factor), scaled(end, factor))
            self.same(listed_passes(slow, *window), [(late(event[0]), *event[1:]) for event in listed_passes(race, start, end)])
            self.same(outcome(relay_map, slow, *window), outcome(relay_map, race, start, end))
            for goal in meetings_of(race) + places_of(race):
                self.same(outcome(goal_times, slow, goal, *window), late(outcome(goal_times, race, goal, start, end)))
            found, wanted = outcome(order_changes, slow, *window), outcome(order_changes, race, start, end)
            self.same(found, [(late(time), order) for time, order in wanted] if isinstance(wanted, list) else wanted)
            rows = handovers(race, race.names()[0], start, end)
            self.same(handovers(slow, race.names()[0], *window), [(late(time), *names) for time, *names in rows])
        for goal in meetings_of(race) + places_of(race):
            found = outcome(nth_goal, slow, goal, 3, after=scaled(2, factor))
            self.same(found, late(outcome(nth_goal, race, goal, 3, after=2)))
            self.same(refusal(slow, goal) is None, refusal(race, goal) is None)
        for order in orders_of(race):
            found, wanted = outcome(first_order, slow, order), outcome(first_order, race, order)
            self.same(found, wanted if wanted is not None and wanted[0] in ("tied", "limit") else late(wanted))
        one, two = nth_pass(race, 10 ** 20), nth_pass(slow, 10 ** 20)
        self.same(two and (two[0], *two[1:]), one and (late(one[0]), *one[1:]))


class Renamed(Case):
    """New names in the same order change nothing but names."""

    NAMES = {"a": "b", "b": "c", "c1": "cc", "d": "x9"}

    def renamed(self, found):
        """Results with the new names."""
        if isinstance(found, list):
            return [self.renamed(one) for one in found]
        if isinstance(found, tuple):
            return tuple(self.renamed(one) for one in found)
        if isinstance(found, dict):
            return {self.NAMES[key]: self.renamed(one) for key, one in found.items()}
        return self.NAMES.get(found, found) if isinstance(found, str) else found

    def test_new_names(self):
        for length, runners in small_races(25, 106):
            race = Race(length, runners)
            other = race.renamed({name: self.NAMES[name] for name in race.names()})
            for answers in (event_answers, order_answers, relay_answers):
                self.same(answers(other), self.renamed(answers(race)))
            for goal in meetings_of(race) + places_of(race):
                self.same(goal_answers(other, self.renamed(goal)), goal_answers(race, goal))
                self.same(refusal(other, self.renamed(goal)), refusal(race, goal))
            self.same(outcome(next_return, other), outcome(next_return, race))


class EarlierCalls(Case):
    """Results do not depend on earlier calls, and no race changes."""

    def test_calls_in_another_order(self):
        for length, runners in small_races(8, 107):
            race, twin = Race(length, runners), Race(length, runners)
            calls = [event_answers, order_answers, relay_answers]
            calls += [lambda one, goal=goal: goal_answers(one, goal) for goal in meetings_of(race) + places_of(race)]
            forward = [call(race) for call in calls]
            backward = [call(twin) for call in calls[::-1]][::-1]
            self.same(forward, backward)
            self.same([call(race) for call in calls], forward)
            self.assertEqual(race, twin)
