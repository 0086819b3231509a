"""Point 13: goals, and the times at which they are reached."""

from fractions import Fraction
from itertools import combinations, permutations

from laprunners.errors import InvalidCount, InvalidGoal, InvalidTime, InvalidWindow, LimitExceeded, Together, UnknownName
from laprunners.goals import count_goal, goal_rows, goal_times, next_return, nth_goal
from laprunners.moments import Moments
from laprunners.races import Race
from tests.models import part_kinds, place_of, times_by_steps, times_of_goal, together_in
from tests.support import BIG, NO_NAMES, NO_NUMBERS, NO_TIMES, Case, copied, fraction, ratio_of, small_races

NO_COUNTS = [None, True, False, 0, -1, -BIG, "1", (1, 1), (3, 2), [], [1], {}, 1.5, object]
WINDOWS = [(0, 12), (0, 3), (1, (7, 2)), (4, 5), (6, 12), (0, 0), (7, 7), ((5, 2), 9)]


def sample():
    """The race of the document: a stands, b and c run."""
    return Race(10, {"a": (0, [(0, 0)]), "b": (1, [(0, 2)]), "c": (0, [(0, 4)])})


def even_race(speeds):
    """A race on a ring of length 1 with runners a, b, .. with constant speeds from place 0."""
    return Race(1, {name: (0, [(0, speed)]) for name, speed in zip("abcdefghijkl", speeds)})


def pair_that_joins():
    """Runner a catches b at time 2 and stays with b up to time 5; then a runs on, and meets b again at 15, 25 and so on."""
    return Race(10, {"a": (0, [(0, 2), (2, 1), (5, 2)]), "b": (2, [(0, 1)]), "c": (7, [(0, 0), (3, 1)])})


def goals_of(runners):
    """Goals of both kinds for runners: lists and tuples in several orders, and dicts with one or more names."""
    names = list(runners)
    made = [list(group) for many in range(2, len(names) + 1) for group in combinations(names, many)]
    made += [tuple(group) for group in permutations(names[::-1], min(3, len(names)))][:3]
    made += [{names[0]: 0}, {names[1]: (1, 2), names[0]: 3}, {name: runners[name][0] for name in names}]
    made += [{names[-1]: -4}, {names[0]: (-7, 2), names[-1]: 11}]
    return made


class ByModel(Case):
    """All results against a model that goes through all meetings of two runners."""

    def check(self, length, runners, goal):
        race, old = Race(length, runners), copied(goal)
        for start, end in WINDOWS:
            together = together_in(length, runners, goal, start, end)
            if together is not None:
                for call in (count_goal, goal_times):
                    self.fails(Together, call, race, goal, start, end, time=ratio_of(together))
                continue
            wanted = [ratio_of(time) for time in times_of_goal(length, runners, goal, start, end)]
            self.same(goal_times(race, goal, start, end), wanted)
            self.same(count_goal(race, goal, start, end), len(wanted))
        self.check_numbers(length, runners, goal)
        self.check_rows(length, runners, goal)
        self.assertEqual(goal, old)

    def check_numbers(self, length, runners, goal):
        race = Race(length, runners)
        for after in (0, (5, 2), 4, 9):
            together = together_in(length, runners, goal, after, None)
            found = times_of_goal(length, runners, goal, after, 30)
            before = [time for time in found if together is None or time <= together]
            for number, time in enumerate(before, start=1):
                self.same(nth_goal(race, goal, number, after=after), ratio_of(time))
            if together is not None:
                self.fails(Together, lambda: nth_goal(race, goal, len(before) + 1, after=after), time=ratio_of(together))

    def check_rows(self, length, runners, goal):
        race = Race(length, runners)
        rows, kinds = goal_rows(race, goal), part_kinds(length, runners, goal)
        self.assertIs(rows.__class__, list)
        self.assertEqual([row[:2] for row in rows], [(ratio_of(begin), end and ratio_of(end)) for begin, end, _ in kinds])
        for (begin, end, moments), (_, _, always) in zip(rows, kinds):
            last = ratio_of(fraction(begin) + 15) if end is None else end
            wanted = [] if always else [ratio_of(time) for time in times_of_goal(length, runners, goal, begin, last)]
            if always:
                self.same(moments, "always")
            elif moments is None:
                self.assertEqual(wanted, [])
            else:
                self.assertIs(moments.__class__, Moments)
                self.assertGreater(fraction(moments.begin), fraction(begin))
                self.same([moments[at] for at in range(moments.count(last))], wanted)
                if end is not None:
                    self.assertNotEqual(wanted, [])

    def test_small_races(self):
        for length, runners in small_races(8, 51):
            for goal in goals_of(runners):
                with self.subTest(length=length, runners=runners, goal=goal):
                    self.check(length, runners, goal)

    def test_numbers_of_different_units(self):
        runners = {
            "a": ((1, 3), [(0, (1, 7)), ((5, 2), (-3, 5)), ((31, 11), (4, 9))]),
            "b": ((-5, 4), [(0, (2, 3)), ((8, 3), (2, 13))]),
            "c": (Fraction(9, 5).as_integer_ratio(), [(0, (-1, 2)), ((5, 2), (-1, 3)), (6, 0)]),
            "d": (0, [(0, (11, 6))]),
        }
        for length in ((3, 7), (5, 4)):
            for goal in goals_of(runners):
                with self.subTest(length=length, goal=goal):
                    self.check(length, runners, goal)


class BySteps(Case):
    """Times found by going through small steps of time one by one."""

    def test_steps(self):
        many = 0
        for length, runners in small_races(120, 52):
            rows = [(time, speed) for _, pieces in runners.values() for time, speed in pieces]
            if not all(isinstance(number, int) for row in rows for number in row) or isinstance(length, tuple):
                continue
            race = Race(length, runners)
            for goal in goals_of(runners)[:7]:
                if together_in(length, runners, goal, 0, 9) is None:
                    # All speeds gained on each other divide 60, and all numbers are multiples of 1 / 2.
                    found = times_by_steps(length, runners, goal, 0, 9, 120)
                    self.same(goal_times(race, goal, 0, 9), [ratio_of(time) for time in found])
                    many += len(found)
        self.assertGreater(many, 100)


class Windows(Case):
    def test_windows_at_moments_changes_and_between(self):
        for length, runners in small_races(25, 53):
            race = Race(length, runners)
            for goal in goals_of(runners)[:6]:
                if together_in(length, runners, goal, 0, 15) is None:
                    self.check(race, goal, times_of_goal(length, runners, goal, 0, 15))

    def check(self, race, goal, reached):
        changes = [fraction(time) for time in race.change_times()]
        times = sorted({Fraction(0), Fraction(1, 3), Fraction(15), *changes[:4], *reached[:5]})
        for start in times:
            for end in times:
                if start <= end:
                    wanted = [ratio_of(time) for time in reached if start < time <= end]
                    self.same(goal_times(race, goal, ratio_of(start), ratio_of(end)), wanted)
                    self.same(count_goal(race, goal, ratio_of(start), ratio_of(end)), len(wanted))

    def test_a_moment_that_is_a_change_of_speed(self):
        # They meet at time 4, when both change their speeds, and at 14, 24 and so on.
        race = Race(10, {"a": (0, [(0, 2), (4, 0)]), "b": (4, [(0, 1), (4, 1)])})
        for window, wanted in (((0, 4), [(4, 1)]), ((4, 4), []), ((4, 13), []), ((0, 14), [(4, 1), (14, 1)]),
                               ((4, 14), [(14, 1)]), ((3, 5), [(4, 1)]), (((7, 2), 4), [(4, 1)]), ((0, (7, 2)), [])):
            self.same(goal_times(race, ["a", "b"], *window), wanted)
        self.same(nth_goal(race, ["a", "b"], 1, after=4), (14, 1))

    def test_time_zero_belongs_to_no_part(self):
        race = even_race([1, 2])
        self.same(goal_times(race, ["a", "b"], 0, 2), [(1, 1), (2, 1)])
        self.same(goal_times(race, {"a": 0, "b": 0}, 0, 0), [])
        self.assertEqual(goal_rows(race, ["a", "b"]), [((0, 1), None, Moments(1, 1))])
        self.same(nth_goal(race, {"a": 0}, 1), (1, 1))

    def test_windows_of_thirty_digits(self):
        race = even_race([3, 5])
        self.same(count_goal(race, ["a", "b"], 0, BIG), 2 * BIG)
        self.same(count_goal(race, ["a", "b"], BIG, 3 * BIG), 4 * BIG)
        self.same(goal_times(race, ["a", "b"], BIG, BIG + 1), [(2 * BIG + 1, 2), (BIG + 1, 1)])
        self.same(nth_goal(race, ["a", "b"], BIG), ratio_of(Fraction(BIG, 2)))
        self.same(nth_goal(race, ["a", "b"], 10 ** 20, after=BIG), ratio_of(BIG + Fraction(10 ** 20, 2)))
        self.same(nth_goal(race, {"a": (BIG, 7)}, 1), ratio_of(Fraction(BIG % 7, 21)))

    def test_great_and_small_numbers(self):
        race = Race((1, BIG), {"a": (0, [(0, BIG)]), "b": ((BIG, 3), [(0, (1, BIG)), (BIG, 0)])})
        found = nth_goal(race, ["a", "b"], 10 ** 20)
        lead = fraction(race.position("a", found)) - fraction(race.position("b", found))
        self.assertEqual((lead * BIG).denominator, 1)
        self.same(count_goal(race, ["a", "b"], 0, found), 10 ** 20)


class Limits(Case):
    def test_exactly_2000_and_2001_times(self):
        race = even_race([3, 5])
        self.same(len(goal_times(race, ["a", "b"], 0, 1000)), 2000)
        self.same(goal_times(race, ["a", "b"], 0, 1000)[-1], (1000, 1))
        self.same(len(goal_times(race, ["a", "b"], (1, 2), 1000)), 1999)
        self.same(len(goal_times(race, ["a", "b"], (1, 2), (2001, 2))), 2000)
        for window in ((0, (2001, 2)), ((1, 2), 1001), (0, BIG)):
            self.fails(LimitExceeded, goal_times, race, ["a", "b"], *window, limit=2000)
        self.same(count_goal(race, ["a", "b"], 0, (2001, 2)), 2001)

    def test_limits_over_several_parts(self):
        race = Race(1, {"a": (0, [(0, 0)]), "b": (0, [(0, 2), (500, -1)])})
        self.same(len(goal_times(race, ["a", "b"], 0, 1500)), 2000)
        self.fails(LimitExceeded, goal_times, race, ["a", "b"], 0, 1501, limit=2000)

    def test_together_comes_before_the_limit(self):
        race = Race(1, {"a": (0, [(0, 1), (3000, 0)]), "b": (0, [(0, 0)])})
        self.fails(LimitExceeded, goal_times, race, ["a", "b"], 0, 3000, limit=2000)
        self.fails(Together, goal_times, race, ["a", "b"], 0, 3001, time=(3000, 1))


class Staying(Case):
    """Goals that stay reached for a while."""

    def test_rows(self):
        self.assertEqual(goal_rows(pair_that_joins(), ["a", "b"]), [
            ((0, 1), (2, 1), Moments(2, 10)), ((2, 1), (5, 1), "always"), ((5, 1), None, Moments(15, 10)),
        ])
        self.assertEqual(goal_rows(pair_that_joins(), ["b", "a"]), goal_rows(pair_that_joins(), ("a", "b")))

    def test_parts_begin_where_pieces_of_its_runners_begin(self):
        self.same([row[:2] for row in goal_rows(pair_that_joins(), {"c": 0})], [((0, 1), (3, 1)), ((3, 1), None)])
        self.same([row[0] for row in goal_rows(pair_that_joins(), ["b", "c"])], [(0, 1), (3, 1)])
        self.same([row[0] for row in goal_rows(pair_that_joins(), ["c", "a"])], [(0, 1), (2, 1), (3, 1), (5, 1)])

    def test_a_part_at_which_the_goal_is_not_reached(self):
        # With its first speed, a would be at place 5 at time 5, but it stops at time 3.
        race = Race(10, {"a": (0, [(0, 1), (3, 0), (6, 1)])})
        self.assertEqual(goal_rows(race, {"a": 5}), [
            ((0, 1), (3, 1), None), ((3, 1), (6, 1), None), ((6, 1), None, Moments(8, 10)),
        ])
        self.assertEqual(goal_rows(race, {"a": 3}), [
            ((0, 1), (3, 1), Moments(3, 10)), ((3, 1), (6, 1), "always"), ((6, 1), None, Moments(16, 10)),
        ])
        self.same(goal_rows(race, {"a": 3})[1][2], "always")

    def test_windows_before_at_and_after(self):
        race = pair_that_joins()
        for window, wanted in (((0, 2), [(2, 1)]), ((0, 1), []), ((5, 5), []), ((2, 2), []), ((3, 3), []),
                               ((5, 25), [(15, 1), (25, 1)])):
            self.same(goal_times(race, ["a", "b"], *window), wanted)
            self.same(count_goal(race, ["a", "b"], *window), len(wanted))

    def test_windows_with_a_stretch(self):
        for window, time in (((0, 3), (2, 1)), ((2, 3), (2, 1)), ((3, 4), (3, 1)), (((9, 2), 9), (9, 2)),
                             ((0, BIG), (2, 1)), ((1, (201, 100)), (2, 1)), (((499, 100), 5), (499, 100))):
            for goal in (["a", "b"], ("b", "a")):
                self.fails(Together, count_goal, pair_that_joins(), goal, *window, time=time)
                self.fails(Together, goal_times, pair_that_joins(), goal, *window, time=time)

    def test_stays_at_the_start_of_the_race_and_for_ever(self):
        race = Race(10, {"a": (3, [(0, 1)]), "b": (13, [(0, 1), (4, 2)]), "c": (0, [(0, 0)])})
        self.fails(Together, count_goal, race, ["a", "b"], 0, 1, time=(0, 1))
        self.fails(Together, count_goal, race, ["a", "b"], 0, BIG, time=(0, 1))
        self.same(goal_times(race, ["a", "b"], 4, 14), [(14, 1)])
        self.fails(Together, count_goal, race, {"c": -10}, BIG, BIG + 1, time=(BIG, 1))
        self.assertEqual(goal_rows(race, {"c": 20}), [((0, 1), None, "always")])

    def test_numbers(self):
        race = pair_that_joins()
        self.same(nth_goal(race, ["a", "b"], 1), (2, 1))
        self.fails(Together, nth_goal, race, ["a", "b"], 2, time=(2, 1))
        self.fails(Together, nth_goal, race, ["a", "b"], BIG, time=(2, 1))
        self.named(Together, nth_goal, dict(race=race, goal=["a", "b"], number=1, after=2), time=(2, 1))
        self.named(Together, nth_goal, dict(race=race, goal=["a", "b"], number=1, after=(9, 2)), time=(9, 2))
        self.same([nth_goal(race, ["a", "b"], number, after=5) for number in (1, 2, 5)], [(15, 1), (25, 1), (55, 1)])
        self.same(nth_goal(race, ["a", "b"], 1, after=15), (25, 1))

    def test_a_split_stretch(self):
        race = pair_that_joins().changed("b", 4, 1)
        self.assertEqual([row[2] for row in goal_rows(race, ["a", "b"])][1:3], ["always", "always"])
        self.fails(Together, count_goal, race, ["a", "b"], 0, 9, time=(2, 1))
        self.fails(Together, count_goal, race, ["a", "b"], (7, 2), 9, time=(7, 2))
        self.fails(Together, count_goal, race, ["a", "b"], 4, 9, time=(4, 1))


class Numbers(Case):
    def test_none_if_there_are_fewer(self):
        race = Race(10, {"a": (0, [(0, 1), (5, 0)]), "b": (3, [(0, 0)])})
        self.same(nth_goal(race, ["a", "b"], 1), (3, 1))
        self.assertIsNone(nth_goal(race, ["a", "b"], 2))
        self.assertIsNone(nth_goal(race, ["a", "b"], 1, after=3))
        self.assertIsNone(nth_goal(race, ["a", "b"], 10 ** 20, after=BIG))
        self.assertIsNone(nth_goal(race, {"a": (1, 2), "b": 4}, 1))

    def test_many_parts(self):
        # Runner a goes forward and back between 0 and 4.
        pieces = [(4 * at, 1 if at % 2 == 0 else -1) for at in range(20)]
        race = Race(10, {"a": (0, pieces)})
        wanted = [ratio_of(4 * at + 3 if at % 2 == 0 else 4 * at + 1) for at in range(20)]
        self.same(goal_times(race, {"a": 3}, 0, 80), wanted)
        self.same([nth_goal(race, {"a": 3}, number) for number in range(1, 21)], wanted)
        self.same([nth_goal(race, {"a": 3}, number, after=13) for number in range(1, 17)], wanted[4:])
        # The last piece goes backward without end, from place 4 at time 76 on.
        self.same(nth_goal(race, {"a": 3}, 21), (87, 1))
        self.same(nth_goal(race, {"a": 3}, 20 + 10 ** 20), (77 + 10 ** 21, 1))

    def test_places_outside_the_ring(self):
        race = sample()
        for shift in (0, 10, -10, 10 * BIG, -10 * BIG):
            self.same(nth_goal(race, {"b": 5 + shift, "c": 8 - shift}, 1), (2, 1))
            self.same(goal_times(race, {"b": 5 + shift}, 0, 8), [(2, 1), (7, 1)])
        self.same(goal_times(race, {"b": (-19, 2)}, 0, 8), goal_times(race, {"b": (1, 2)}, 0, 8))

    def test_example_of_the_document(self):
        self.same(goal_times(sample(), ["a", "b"], 0, 10), [(9, 2), (19, 2)])
        self.same(nth_goal(sample(), {"b": 5, "c": 8}, 1), (2, 1))

    def test_many_runners(self):
        race = even_race([0, 1, 2, 3, 5, 7, 11, 13, 17, 19, 23, 29])
        self.same(goal_times(race, race.names(), 0, 3), [(1, 1), (2, 1), (3, 1)])
        self.same(nth_goal(race, {name: 0 for name in race.names()}, BIG), (BIG, 1))
        self.same(next_return(race, after=BIG), (BIG + 1, 1))


class Returns(Case):
    def test_returns(self):
        race = Race(10, {"a": (3, [(0, 2)]), "b": (1, [(0, -4)])})
        self.same(next_return(race), (5, 1))
        self.same(next_return(race, after=0), (5, 1))
        self.same(next_return(race, after=(24, 5)), (5, 1))
        self.same(next_return(race, after=5), (10, 1))
        self.same(next_return(race, after=5 * BIG), (5 * BIG + 5, 1))

    def test_by_goals(self):
        for length, runners in small_races(40, 54):
            race = Race(length, runners)
            goal = {name: runners[name][0] for name in runners}
            for after in (0, 1, (7, 2), 6, BIG):
                together = together_in(length, runners, goal, after, None)
                found = times_of_goal(length, runners, goal, after, 40) if after != BIG else []
                if found and (together is None or found[0] <= together):
                    self.same(next_return(race, after=after), ratio_of(found[0]))
                elif together is not None:
                    self.named(Together, next_return, dict(race=race, after=after), time=ratio_of(together))
                else:
                    self.same(next_return(race, after=after), nth_goal(race, goal, 1, after=after))

    def test_none(self):
        self.assertIsNone(next_return(Race(10, {"a": (3, [(0, 1), (2, 0)])})))
        race = Race(10, {"a": (3, [(0, 1), (10, 0)]), "b": (0, [(0, 2)])})
        self.same(next_return(race), (10, 1))
        self.same(next_return(race, after=(19, 2)), (10, 1))
        self.same(next_return(race, after=10), (15, 1))

    def test_standing_runners(self):
        race = Race(10, {"a": (3, [(0, 0), (7, 1)])})
        self.named(Together, next_return, dict(race=race), time=(0, 1))
        self.named(Together, next_return, dict(race=race, after=(9, 2)), time=(9, 2))
        self.same(next_return(race, after=7), (17, 1))

    def test_errors(self):
        for after in NO_TIMES:
            self.named(InvalidTime, next_return, dict(race=sample(), after=after))
        with self.assertRaises(TypeError):
            next_return(sample(), 1)


class Errors(Case):
    def goal_faults(self):
        """Values that are no goals, in the order in which their errors are checked."""
        sizes = [None, True, 0, 5, "ab", "", b"ab", [], (), {}, ["a"], ("a",), [["a", "b"]], object, range(2), (1, 2, 3)[:1]]
        faults = [({"goal": value}, InvalidGoal, {}) for value in sizes]
        for name in NO_NAMES:
            faults.append(({"goal": ["a", name]}, UnknownName, {"name": name}))
            faults.append(({"goal": (name, "a", "a")}, UnknownName, {"name": name}))
        for name in [None, "zz", 0, (), ("a",), b"a"]:
            faults.append(({"goal": {name: 1}}, UnknownName, {"name": name}))
            faults.append(({"goal": {"a": "x", name: "x", "yy": 0}}, UnknownName, {"name": name}))
        faults.append(({"goal": ["a", "zz", "yy"]}, UnknownName, {"name": "zz"}))
        for goal in (["a", "a"], ("a", "b", "a"), ["b", "b", "b"], ["a", "b", "c", "a"]):
            faults.append(({"goal": goal}, InvalidGoal, {}))
        for place in NO_NUMBERS:
            faults.append(({"goal": {"a": place}}, InvalidGoal, {}))
            faults.append(({"goal": {"b": 1, "a": place, "c": 0}}, InvalidGoal, {}))
        return faults

    def test_goals(self):
        race = sample()
        for wrong, error, fields in self.goal_faults():
            for call, more in ((goal_rows, ()), (count_goal, (0, 9)), (goal_times, (0, 9)), (nth_goal, (1,)),
                               (count_goal, (-1, None)), (goal_times, ("x", -1)), (nth_goal, (0,))):
                with self.subTest(goal=repr(wrong), call=call):
                    self.fails(error, call, race, wrong["goal"], *more, **fields)

    def test_windows(self):
        faults = self.goal_faults()[::9]
        faults += [({"start": time}, InvalidTime, {}) for time in NO_TIMES[::2]]
        faults += [({"end": time}, InvalidTime, {}) for time in NO_TIMES]
        faults += [({"start": 5, "end": 4}, InvalidWindow, {}), ({"start": (1, 2), "end": (1, 3)}, InvalidWindow, {})]
        faults += [({"goal": {"a": 0}}, Together, {"time": (0, 1)})]
        for call in (count_goal, goal_times):
            self.errors_in_order(call, {"race": sample(), "goal": ["a", "b"], "start": 0, "end": 9}, faults)

    def test_numbers(self):
        faults = self.goal_faults()[::9]
        faults += [({"number": number}, InvalidCount, {}) for number in NO_COUNTS]
        faults += [({"after": time}, InvalidTime, {}) for time in NO_TIMES]
        faults += [({"goal": {"a": 0}}, Together, {"time": (0, 1)})]
        self.errors_in_order(nth_goal, {"race": sample(), "goal": ["a", "b"], "number": 1, "after": 0}, faults)
        with self.assertRaises(TypeError):
            nth_goal(sample(), ["a", "b"], 1, 0)

    def test_names_of_parameters(self):
        race = sample()
        self.same(goal_times(race=race, goal=["a", "b"], start=0, end=10), [(9, 2), (19, 2)])
        self.same(count_goal(race=race, goal=["a", "b"], start=0, end=10), 2)
        self.same(nth_goal(race=race, goal=["a", "b"], number=2, after=0), (19, 2))
        self.assertEqual(goal_rows(race=race, goal=["a", "b"]), [((0, 1), None, Moments((9, 2), 5))])
        self.same(next_return(race=race, after=0), (5, 1))


class Arguments(Case):
    def test_goals_do_not_change_and_results_are_new(self):
        race = sample()
        for goal in (["a", "b"], ["c", "a", "b"], {"c": 18, "b": -5}):
            old = copied(goal)
            for call in (lambda: goal_rows(race, goal), lambda: goal_times(race, goal, 0, 30)):
                first = call()
                first.append("more")
                self.assertEqual(call(), first[:-1])
            count_goal(race, goal, 0, BIG)
            nth_goal(race, goal, 3)
            self.assertEqual(goal, old)
            self.assertEqual(list(goal), list(old))
        self.assertEqual(race, sample())

    def test_models_agree_with_the_race(self):
        for length, runners in small_races(5, 55):
            race = Race(length, runners)
            for name in runners:
                self.same(race.place(name, (11, 2)), ratio_of(place_of(length, runners, name, Fraction(11, 2))))
