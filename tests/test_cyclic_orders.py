"""Point 16: orders around the ring, the times at which they change, and the first time of a wanted one."""

from fractions import Fraction
from itertools import permutations

from laprunners.cyclic_orders import cyclic_order, first_order, order_changes
from laprunners.errors import InvalidCount, InvalidOrder, InvalidTime, InvalidWindow, LimitExceeded, Tied
from laprunners.events import nth_pass, pass_times
from laprunners.passes import all_passes
from laprunners.races import Race
from tests.models import begins_of, model_events, model_first_order, model_order
from tests.support import BIG, NO_TIMES, Case, crowd, fraction, ratio_of, small_races

NO_COUNTS = [None, True, False, 0, -1, 2001, BIG, "1", (1, 1), (3, 2), [], [1], {}, 1.5, object]


def sample():
    """Runner a passes c at time 1 and b at time 2, and so on; c and b keep their order."""
    return Race(10, {"b": (2, [(0, 0)]), "a": (0, [(0, 1)]), "c": (1, [(0, 0)])})


def staying():
    """Runner c catches a at time 5 and stays with it."""
    return Race(10, {"a": (5, [(0, 0)]), "b": (7, [(0, 0)]), "c": (0, [(0, 1), (5, 0)])})


class Just(Case):
    def check(self, length, runners, time):
        race, wanted = Race(length, runners), model_order(length, runners, time)
        if isinstance(wanted, tuple):
            self.fails(Tied, cyclic_order, race, time, first=wanted[0], second=wanted[1])
        else:
            self.same(cyclic_order(race, time), wanted)

    def test_by_model(self):
        for length, runners in small_races(60, 81):
            times = {Fraction(0), Fraction(1, 2), Fraction(5), *begins_of(runners, runners)}
            times |= {event[0] for event in model_events(length, runners, 0, 6)}
            for time in times:
                with self.subTest(length=length, runners=runners, time=time):
                    self.check(length, runners, ratio_of(time))

    def test_a_crowd(self):
        for time in (0, 1, (7, 2), (16, 3), 30):
            self.check((7, 2), crowd(12, 5), time)

    def test_one_place_and_different_speeds(self):
        race = Race(10, {"a": (3, [(0, 1), (4, 0)]), "b": (3, [(0, 3)]), "c": (3, [(0, -2)]), "d": (3, [(0, 0)])})
        self.same(cyclic_order(race, 0), ["a", "b", "c", "d"])
        race = Race(10, {"a": (0, [(0, 1)]), "b": (0, [(0, -1)]), "c": (5, [(0, 7)])})
        self.same(cyclic_order(race, 0), ["a", "c", "b"])

    def test_the_speed_from_the_time_on_counts(self):
        # At time 2 both are at place 2.
        race = Race(10, {"a": (0, [(0, 1), (2, -1)]), "b": (2, [(0, 0)]), "c": (4, [(0, 0)])})
        self.same(cyclic_order(race, (3, 2)), ["a", "b", "c"])
        self.same(cyclic_order(race, 2), ["a", "b", "c"])
        race = Race(10, {"a": (0, [(0, 1)]), "b": (2, [(0, 0)]), "c": (4, [(0, 0)])})
        self.same(cyclic_order(race, 2), ["a", "c", "b"])
        self.same(cyclic_order(race, (19, 10)), ["a", "b", "c"])

    def test_orders_begin_with_the_least_name(self):
        race = Race(10, {"b": (1, [(0, 0)]), "c": (2, [(0, 0)]), "a": (3, [(0, 0)]), "d": (4, [(0, 0)])})
        self.same(cyclic_order(race, 0), ["a", "d", "b", "c"])
        self.same(cyclic_order(Race(1, {"x": (0, [(0, 1)])}), BIG), ["x"])
        self.same(cyclic_order(Race(1, {"y": (0, [(0, 1)]), "x": ((1, 2), [(0, 7)])}), BIG), ["x", "y"])

    def test_who_is_tied(self):
        rows = {"e": (2, [(0, 1)]), "d": (2, [(0, 1)]), "c": (2, [(0, 1)]), "b": (7, [(0, 0)]), "a": (7, [(0, 0)])}
        self.fails(Tied, cyclic_order, Race(10, rows), 0, first="c", second="d")
        self.fails(Tied, cyclic_order, Race(10, rows), 6, first="a", second="b")
        # At one place, those with the least speed come first, here the backward ones.
        rows = {"a": (3, [(0, 1)]), "b": (13, [(0, 1)]), "x": (3, [(0, -1)]), "y": (-7, [(0, -1)]), "z": (3, [(0, -1)])}
        self.fails(Tied, cyclic_order, Race(10, rows), 0, first="x", second="y")
        self.fails(Tied, cyclic_order, Race(10, rows), 3, first="x", second="y")
        self.fails(Tied, cyclic_order, Race(10, rows), (7, 2), first="a", second="b")
        self.same(cyclic_order(staying(), (49, 10)), ["a", "b", "c"])
        self.fails(Tied, cyclic_order, staying(), 5, first="a", second="c")
        self.fails(Tied, cyclic_order, staying(), BIG, first="a", second="c")


class Changes(Case):
    def check(self, length, runners, start, end):
        race = Race(length, runners)
        times = [fraction(start)] + sorted({event[0] for event in model_events(length, runners, start, end)})
        orders = [model_order(length, runners, ratio_of(time)) for time in times]
        ties = [order for order in orders if isinstance(order, tuple)]
        if ties:
            self.fails(Tied, order_changes, race, start, end, first=ties[0][0], second=ties[0][1])
        else:
            wanted = [(ratio_of(time), order) for time, order in zip(times, orders)]
            self.same(order_changes(race, start, end), wanted)
        return bool(ties)

    def test_by_model(self):
        ties = []
        for length, runners in small_races(60, 82):
            for window in ((0, 6), (1, (7, 2)), (4, 4), ((5, 2), 8)):
                with self.subTest(length=length, runners=runners, window=window):
                    ties.append(self.check(length, runners, *window))
        self.assertGreater(len(ties) - sum(ties), 60)
        self.assertGreater(sum(ties), 10)

    def test_a_crowd(self):
        self.check((7, 2), crowd(12, 5), 0, 2)
        self.check((7, 2), crowd(7, 5), (1, 7), 9)

    def test_sample(self):
        self.same(order_changes(sample(), 0, 12), [
            ((0, 1), ["a", "c", "b"]), ((1, 1), ["a", "b", "c"]), ((2, 1), ["a", "c", "b"]), ((11, 1), ["a", "b", "c"]),
            ((12, 1), ["a", "c", "b"]),
        ])
        self.same(order_changes(sample(), 1, 2), [((1, 1), ["a", "b", "c"]), ((2, 1), ["a", "c", "b"])])
        self.same(order_changes(sample(), 2, (21, 2)), [((2, 1), ["a", "c", "b"])])

    def test_many_at_one_place(self):
        # All four come to place 0 at time 1, and b, who would be passed by d, turns there.
        race = Race(10, {"a": (9, [(0, 1)]), "b": (8, [(0, 2), (1, 9)]), "c": (10, [(0, 0)]), "d": (7, [(0, 3)]),
                         "e": (3, [(0, 0)])})
        self.same(order_changes(race, 0, 1), [((0, 1), ["a", "c", "e", "d", "b"]), ((1, 1), ["a", "d", "b", "e", "c"])])
        self.same(order_changes(race, (1, 2), (99, 100)), [((1, 2), ["a", "c", "e", "d", "b"])])

    def test_turns_without_passes(self):
        race = Race(10, {"a": (0, [(0, 0), (3, -1), (4, 0)]), "b": (5, [(0, 0), (2, (1, 2))])})
        self.same(order_changes(race, 0, 8), [((0, 1), ["a", "b"])])

    def test_turns_at_passes(self):
        # At time 2, a catches b and falls back; at time 12 both go on at other speeds.
        race = Race(10, {"a": (0, [(0, 1), (2, -1)]), "b": (2, [(0, 0), (12, -2)]), "c": (4, [(0, 0)])})
        self.same(order_changes(race, 0, 12), [
            ((0, 1), ["a", "b", "c"]), ((2, 1), ["a", "b", "c"]), ((10, 1), ["a", "c", "b"]), ((12, 1), ["a", "c", "b"]),
        ])

    def test_ties(self):
        self.same(order_changes(staying(), 0, (49, 10)), [((0, 1), ["a", "b", "c"])])
        self.fails(Tied, order_changes, staying(), 0, 5, first="a", second="c")
        self.fails(Tied, order_changes, staying(), 7, 7, first="a", second="c")

    def test_limits(self):
        race = Race(1, {"a": (0, [(0, 0)]), "b": ((1, 2), [(0, 1)])})
        self.same(len(order_changes(race, 0, 2000)), 2001)
        self.fails(LimitExceeded, order_changes, race, 0, 2001, limit=2000)
        # The limit counts before the order just after the start.
        race = Race(1, {"a": (0, [(0, 0)]), "b": (0, [(0, 0)]), "c": ((1, 2), [(0, 1)])})
        self.fails(Tied, order_changes, race, 0, 1000, first="a", second="b")
        self.fails(LimitExceeded, order_changes, race, 0, 1001, limit=2000)

    def test_times_are_those_of_passes(self):
        for length, runners in small_races(15, 83):
            race = Race(length, runners)
            try:
                found = order_changes(race, 1, 9)
            except Tied:
                continue
            self.same([time for time, _ in found], [(1, 1)] + pass_times(race, 1, 9))
            for time, order in found:
                self.same(order, cyclic_order(race, time))


class First(Case):
    def check(self, length, runners, order, after, most):
        wanted = model_first_order(length, runners, list(order), after, most)
        arguments = dict(race=Race(length, runners), order=order, after=after, most=most)
        if wanted == "limit":
            self.named(LimitExceeded, first_order, arguments, limit=most)
        elif isinstance(wanted, tuple):
            self.named(Tied, first_order, arguments, first=wanted[0], second=wanted[1])
        else:
            self.same(first_order(**arguments), None if wanted is None else ratio_of(wanted))
        return "tied" if isinstance(wanted, tuple) else wanted if wanted in ("limit", None) else "time"

    def test_by_model(self):
        counts = {}
        for length, runners in small_races(70, 84):
            orders = [order for order in permutations(runners) if order[0] == min(order)][:4]
            for at, order in enumerate(orders):
                for after, most in ((0, 500), ((5, 2), 3), (6, 1), (9, 40)):
                    with self.subTest(length=length, runners=runners, order=order, after=after, most=most):
                        turned = order[at:] + order[:at]
                        kind = self.check(length, runners, turned if at % 2 else list(turned), after, most)
                        counts[kind] = counts.get(kind, 0) + 1
        for kind in ("time", "tied", "limit", None):
            self.assertGreater(counts[kind], 4, counts)

    def test_a_crowd(self):
        runners = crowd(12, 1)
        race = Race((7, 2), runners)
        for number, most in ((1, 500), (40, 500), (300, 500), (300, 20)):
            order = cyclic_order(race, nth_pass(race, number, after=1)[0])
            for turned in (order, order[5:] + order[:5]):
                self.check((7, 2), runners, turned, 1, most)
        self.check((7, 2), runners, sorted(runners), 1, 700)

    def test_at_the_given_time_and_later(self):
        for order in (["a", "c", "b"], ("c", "b", "a"), ["b", "a", "c"]):
            self.same(first_order(sample(), order), (0, 1))
            self.same(first_order(sample(), order, after=(1, 2)), (1, 2))
            self.same(first_order(sample(), order, after=1), (2, 1))
            self.same(first_order(sample(), order, after=(3, 2)), (2, 1))
            self.same(first_order(sample(), order, after=10 * BIG + 1), (10 * BIG + 2, 1))
        for order in (["a", "b", "c"], ("b", "c", "a"), ["c", "a", "b"]):
            self.same(first_order(sample(), order), (1, 1))
            self.same(first_order(sample(), order, after=2), (11, 1))
            self.same(first_order(sample(), order, after=1), (1, 1))

    def test_never(self):
        race = Race(10, {"a": (0, [(0, 1)]), "b": (2, [(0, 1)]), "c": (5, [(0, 1)]), "d": (9, [(0, 0)])})
        self.same(first_order(race, ["a", "b", "d", "c"]), (4, 1))
        self.assertIsNone(first_order(race, ["a", "c", "b", "d"]))
        self.assertIsNone(first_order(race, ["d", "a", "c", "b"], after=BIG))
        # There is no period at equal speeds.
        race = Race(10, {"a": (0, [(0, 1)]), "b": (2, [(0, 1)]), "c": (5, [(0, 1)])})
        self.assertIsNone(first_order(race, ["a", "c", "b"]))
        self.assertIsNone(first_order(race, ["a", "c", "b"], after=BIG, most=1))
        self.same(first_order(race, ["b", "c", "a"], after=BIG), (BIG, 1))

    def test_the_end_of_the_first_period(self):
        # All three run away from each other; after 10 all distances are repeated, as they are at place 0 again.
        race = Race(10, {"a": (0, [(0, 0)]), "b": (0, [(0, 1)]), "c": (0, [(0, 2)])})
        self.same(first_order(race, ["a", "b", "c"]), (0, 1))
        self.same(first_order(race, ["a", "b", "c"], after=5), (10, 1))
        self.same(first_order(race, ["a", "c", "b"]), (5, 1))
        self.same(first_order(race, ["a", "c", "b"], after=7), (7, 1))
        self.same(first_order(race, ["a", "b", "c"], after=(11, 2)), (10, 1))
        # Just after time 10 the order is that just after time 0, so the wanted one never comes up.
        race = Race(10, {"a": (0, [(0, 0)]), "b": (1, [(0, 0)]), "c": (2, [(0, 0)]), "d": ((5, 2), [(0, 1)])})
        self.same(all_passes(race, 0, 10), 3)
        for most in (3, 4, 500):
            self.assertIsNone(first_order(race, ["a", "c", "b", "d"], most=most))
        for most in (1, 2):
            self.named(LimitExceeded, first_order, dict(race=race, order=["a", "c", "b", "d"], most=most), limit=most)

    def test_speeds_with_a_common_divisor(self):
        # The speeds differ by 2, so the period is 5, in which d passes all others.
        for more in (0, 1, -3):
            race = Race(10, {name: (start, [(0, speed + more)]) for name, start, speed in
                             (("a", 0, 0), ("b", 1, 0), ("c", 2, 0), ("d", (5, 2), 2))})
            arguments = dict(race=race, order=["a", "c", "b", "d"])
            for after in (0, (1, 3), 7):
                self.same(all_passes(race, after, ratio_of(fraction(after) + 5)), 3)
                self.assertIsNone(first_order(**arguments, after=after, most=3))
                self.named(LimitExceeded, first_order, {**arguments, "after": after, "most": 2}, limit=2)

    def test_a_pass_at_the_end_of_the_period(self):
        # The last pass of the period is at its end, time 10.
        race = Race(10, {"a": (0, [(0, 0)]), "b": (0, [(0, 1)]), "c": (5, [(0, 0)])})
        self.same(first_order(race, ["a", "c", "b"]), (5, 1))
        self.same(first_order(race, ["a", "b", "c"], after=5), (10, 1))
        race = Race(10, {"a": (0, [(0, 0)]), "b": (0, [(0, 1)]), "c": (5, [(0, 0)]), "d": (7, [(0, 0)])})
        for most, limit in ((1, True), (2, True), (3, False), (4, False)):
            arguments = dict(race=race, order=["a", "d", "c", "b"], most=most)
            if limit:
                self.named(LimitExceeded, first_order, arguments, limit=most)
            else:
                self.assertIsNone(first_order(**arguments))

    def test_periods_begin_at_the_last_turn(self):
        # Only after the turn at time 100 does anybody pass.
        race = Race(10, {"a": (0, [(0, 0), (100, 1)]), "b": (2, [(0, 0)]), "c": (4, [(0, 0), (50, 0)])})
        self.same(first_order(race, ["a", "c", "b"]), (102, 1))
        self.same(first_order(race, ["a", "c", "b"], after=105), (112, 1))
        # At time 5 all speeds become equal; the last pass is at that time.
        race = Race(10, {"a": (0, [(0, 1), (5, 0)]), "b": (5, [(0, 0), (5, -1), (6, 0)]), "c": (8, [(0, 0)])})
        self.same(first_order(race, ["a", "c", "b"]), (5, 1))
        self.assertIsNone(first_order(race, ["a", "b", "c"], after=5))
        self.same(first_order(race, ["a", "b", "c"], after=4), (4, 1))

    def test_only_after_the_pass_with_the_number_most(self):
        # Runner d passes c, then b, then a.
        race = Race(10, {"a": (7, [(0, 0)]), "b": (5, [(0, 0)]), "c": (3, [(0, 0)]), "d": (0, [(0, 1)])})
        wanted = ["a", "c", "b", "d"]
        self.same(first_order(race, wanted, most=2), (5, 1))
        self.named(LimitExceeded, first_order, dict(race=race, order=wanted, most=1), limit=1)
        # Passes at one time are looked at together: at time 1, c passes b, and d passes a.
        race = Race(10, {"a": (0, [(0, 0)]), "b": (5, [(0, 0)]), "c": (4, [(0, 1)]), "d": (9, [(0, 1)])})
        self.same(first_order(race, ["a", "d", "b", "c"], most=1), (1, 1))
        self.named(LimitExceeded, first_order, dict(race=race, order=["a", "b", "c", "d"], most=1), limit=1)
        self.named(LimitExceeded, first_order, dict(race=race, order=["a", "b", "c", "d"], most=2), limit=2)
        # All passes of the period are at the times 1 and 6, two at each of them.
        self.assertIsNone(first_order(race, ["a", "b", "c", "d"], most=3))

    def test_limits_near_2000(self):
        # Runner b passes a, c and d in each of its many rounds; c and d come to the places of the order in time.
        race = Race(1, {"a": (0, [(0, 0)]), "b": ((1, 2), [(0, 1001)]), "c": ((1, 3), [(0, 1)]), "d": ((2, 3), [(0, 1)])})
        self.same(all_passes(race, 0, 1), 1001 + 2 * 1000 + 2)
        wanted = ["a", "d", "c", "b"]
        found = first_order(race, wanted, most=2000)
        self.same(cyclic_order(race, found), wanted)
        number = all_passes(race, 0, found)
        self.assertGreater(number, 900)
        self.same(first_order(race, wanted, most=number), found)
        self.named(LimitExceeded, first_order, dict(race=race, order=wanted, most=number - 1), limit=number - 1)

    def test_exactly_2000_and_2001_passes_to_the_end(self):
        # Runner d passes each of the other ones once in each round, until it stops.
        steady = {"a": (0, [(0, 0)]), "b": ((1, 4), [(0, 0)]), "c": ((1, 2), [(0, 0)]), "e": ((3, 4), [(0, 0)])}
        for turn, many in ((500, 2000), ((4001, 8), 2001)):
            race = Race(1, {**steady, "d": ((1, 8), [(0, 1), (turn, 0), (BIG, 0)])})
            self.same(all_passes(race, 0, BIG), many)
            arguments = dict(race=race, order=["a", "c", "b", "e", "d"])
            if many == 2000:
                self.assertIsNone(first_order(**arguments, most=2000))
            else:
                # The last pass is at the very time of the turn, where d stops beside another runner.
                self.same(nth_pass(race, 2001)[0], (4001, 8))
                self.named(LimitExceeded, first_order, {**arguments, "most": 2000}, limit=2000)
            self.named(LimitExceeded, first_order, {**arguments, "most": 1999}, limit=1999)
            self.named(LimitExceeded, first_order, arguments, limit=500)

    def test_ties(self):
        arguments = dict(race=staying(), order=["a", "c", "b"])
        self.named(Tied, first_order, arguments, first="a", second="c")
        self.named(Tied, first_order, {**arguments, "after": 5}, first="a", second="c")
        self.same(first_order(staying(), ["a", "b", "c"]), (0, 1))
        self.named(Tied, first_order, dict(race=staying(), order=["a", "b", "c"], after=5), first="a", second="c")
        # The limit ends the search before the tie, or the wanted order comes up before it.
        race = Race(10, {"a": (5, [(0, 0)]), "b": (2, [(0, 0)]), "c": (0, [(0, 1), (5, 0)])})
        self.same(first_order(race, ["a", "b", "c"]), (2, 1))
        self.named(Tied, first_order, dict(race=race, order=["a", "c", "b"], after=2), first="a", second="c")
        self.named(Tied, first_order, dict(race=race, order=["a", "c", "b"], after=3), first="a", second="c")
        self.same(first_order(race, ["a", "c", "b"]), (0, 1))
        race = Race(10, {"a": (5, [(0, 0)]), "b": (2, [(0, 0)]), "c": (0, [(0, 1), (5, 0)]), "d": (9, [(0, 0)])})
        arguments = dict(race=race, order=["a", "c", "b", "d"])
        self.named(LimitExceeded, first_order, {**arguments, "most": 1}, limit=1)
        self.named(Tied, first_order, {**arguments, "most": 2}, first="a", second="c")

    def test_one_and_two_runners(self):
        self.same(first_order(Race(1, {"x": (0, [(0, 1), (3, 2)])}), ["x"], after=BIG), (BIG, 1))
        for order in (["x", "y"], ("y", "x")):
            self.same(first_order(Race(1, {"x": (0, [(0, 1)]), "y": (0, [(0, 2)])}), order, most=1), (0, 1))
            self.named(Tied, first_order, dict(race=Race(1, {"x": (0, [(0, 1)]), "y": (1, [(0, 1)])}), order=order),
                       first="x", second="y")

    def test_great_numbers(self):
        race = Race(BIG, {"a": (0, [(0, 0)]), "b": (BIG // 2, [(0, 0)]), "c": (1, [(0, (1, 7))])})
        self.same(first_order(race, ["a", "b", "c"]), (7 * (BIG // 2 - 1), 1))
        self.same(first_order(race, ["a", "c", "b"], after=7 * (BIG // 2)), (7 * (BIG - 1), 1))


class Errors(Case):
    def test_orders(self):
        race = Race(10, {"a": (0, [(0, 1)]), "b": (2, [(0, 0)]), "c": (4, [(0, 0)])})
        values = [None, True, 0, "abc", b"abc", {}, {"a": 1, "b": 2, "c": 3}, [], (), ["a"], ["a", "b"], ["a", "b", "c", "a"],
                  ["a", "b", "b"], ["a", "b", "zz"], ["a", "b", None], ["a", "b", ["c"]], ("a", "b", 3), ["A", "b", "c"],
                  [["a", "b", "c"]], object, ("a", "a", "a"), ["a", "b", {"c": 1}], range(3)]
        faults = [({"order": value}, InvalidOrder, {}) for value in values]
        faults += [({"after": time}, InvalidTime, {}) for time in NO_TIMES]
        faults += [({"most": most}, InvalidCount, {}) for most in NO_COUNTS]
        self.errors_in_order(first_order, {"race": race, "order": ["c", "a", "b"], "after": 0, "most": 500}, faults)
        tied = Race(10, {"a": (0, [(0, 1)]), "b": (0, [(0, 1)]), "c": (4, [(0, 0)])})
        faults += [({}, Tied, {"first": "a", "second": "b"})]
        self.errors_in_order(first_order, {"race": tied, "order": ["c", "a", "b"], "after": 0, "most": 500}, faults)
        for args in ((0,), (0, 500)):
            with self.assertRaises(TypeError):
                first_order(race, ["c", "a", "b"], *args)
        for most in (1, 2000):
            self.same(first_order(race, ["c", "a", "b"], most=most), (0, 1))

    def test_times_and_windows(self):
        faults = [({"time": time}, InvalidTime, {}) for time in NO_TIMES]
        self.errors_in_order(cyclic_order, {"race": sample(), "time": 0}, faults)
        for time in NO_TIMES:
            self.fails(InvalidTime, cyclic_order, Race(1, {"a": (0, [(0, 1)]), "b": (0, [(0, 1)])}), time)
        faults = [({"start": time}, InvalidTime, {}) for time in NO_TIMES]
        faults += [({"end": time}, InvalidTime, {}) for time in NO_TIMES]
        faults += [({"start": 5, "end": 4}, InvalidWindow, {}), ({"start": (1, 2), "end": (1, 3)}, InvalidWindow, {})]
        faults += [({"end": BIG}, LimitExceeded, {"limit": 2000})]
        self.errors_in_order(order_changes, {"race": sample(), "start": 0, "end": 9}, faults)

    def test_names_of_parameters_and_new_results(self):
        race, order = sample(), ["c", "b", "a"]
        self.same(cyclic_order(race=race, time=1), ["a", "b", "c"])
        self.same(order_changes(race=race, start=1, end=1), [((1, 1), ["a", "b", "c"])])
        self.same(first_order(race=race, order=order, after=1, most=1), (2, 1))
        self.same(order, ["c", "b", "a"])
        for call in (lambda: cyclic_order(race, 0), lambda: order_changes(race, 0, 5)):
            first, again = call(), call()
            first.reverse()
            first.append("more")
            self.same(call(), again)
        found = order_changes(race, 0, 12)
        for _, row in found:
            row.clear()
        self.same(order_changes(race, 0, 0), [((0, 1), ["a", "c", "b"])])
        self.assertEqual(race, sample())
