"""Point 14: refusals show that a goal is not reached after the beginning of its last part."""

import random
from fractions import Fraction
from itertools import combinations, product

from laprunners.errors import InvalidGoal, UnknownName
from laprunners.goals import count_goal, goal_rows, is_refusal, refusal
from laprunners.races import Race
from tests.models import begins_of, is_reached
from tests.support import BIG, NO_NAMES, NO_NUMBERS, Case, copied, fraction, model_position, model_speed, ratio_of


def demands(length, runners, goal):
    """The growths and lacks of the conditions of a goal, from the words of the document."""
    begin = ratio_of(begins_of(runners, goal)[-1])
    speeds = {name: model_speed(runners[name], begin) for name in goal}
    positions = {name: model_position(length, runners[name], begin) for name in goal}
    if isinstance(goal, dict):
        return [(speeds[name], fraction(goal[name]) - positions[name]) for name in sorted(goal)]
    first = goal[0]
    return [(speeds[name] - speeds[first], positions[first] - positions[name]) for name in goal[1:]]


def refuses(length, runners, goal, value):
    """Whether a tuple of integers is a refusal, from the words of the document."""
    rows = demands(length, runners, goal)
    growth = sum(item * row[0] for item, row in zip(value, rows))
    lack = sum(item * row[1] for item, row in zip(value, rows))
    return growth == 0 and (lack / fraction(length)).denominator > 1


def reached_in_last_part(length, runners, goal, steps):
    """Whether a goal is reached in its last part, extended without end; so many small steps of time are one unit."""
    begin = begins_of(runners, goal)[-1]
    last = {name: (model_position(length, runners[name], ratio_of(begin)),
                   [(0, model_speed(runners[name], ratio_of(begin)))]) for name in goal}
    rows = {name: (ratio_of(start), [(0, ratio_of(pieces[0][1]))]) for name, (start, pieces) in last.items()}
    # All speeds are integers, so everything is repeated after one length.
    times = [Fraction(at, steps) for at in range(int(fraction(length)) * steps)]
    return any(is_reached(length, rows, goal, time) for time in times)


def integer_races(many, seed):
    """Tuples (length, runners) with integers as lengths, speeds and times, and places that are multiples of 1 / 2."""
    source = random.Random(seed)
    made = []
    for _ in range(many):
        length = source.choice([1, 2, 3, 4, 6])
        runners = {}
        for name in source.sample(["a", "b", "c1", "d"], source.randint(2, 4)):
            begins = [0] + sorted(source.sample(range(1, 8), source.choice([0, 0, 1, 3])))
            rows = [(begin, source.choice([0, 1, 1, -1, 2, 2, -2, 3])) for begin in begins]
            runners[name] = (source.choice([0, 0, 1, (1, 2), (7, 2), -2, 5]), rows)
        made.append((length, runners))
    return made


def goals_of(runners, source):
    """Some goals of both kinds for runners."""
    names = list(runners)
    source.shuffle(names)
    lists = [list(group) for many in range(2, len(names) + 1) for group in combinations(names, many)]
    places = [0, 1, (1, 2), (-3, 2), 4]
    dicts = [{name: source.choice(places) for name in names[:many]} for many in range(1, len(names) + 1)]
    return lists[:3] + [tuple(names)] + dicts


def closed():
    """Runners a, b and c are never at one place after time 2: b - a grows by 2, c - a by 4 each unit of time."""
    return Race(10, {"a": (0, [(0, 5), (2, 0)]), "b": (1, [(0, 2)]), "c": (0, [(0, 4)])})


class ByTrying(Case):
    def test_refusals(self):
        source, found = random.Random(61), [0, 0]
        for length, runners in integer_races(45, 62):
            race = Race(length, runners)
            for goal in goals_of(runners, source):
                with self.subTest(length=length, runners=runners, goal=goal):
                    old = copied(goal)
                    value, reached = refusal(race, goal), reached_in_last_part(length, runners, goal, 120)
                    self.assertEqual(value is None, reached)
                    found[reached] += 1
                    if value is not None:
                        self.check_refusal(race, length, runners, goal, value)
                    self.check_tuples(race, length, runners, goal, reached)
                    self.assertEqual(goal, old)
        self.assertGreater(min(found), 100)

    def check_refusal(self, race, length, runners, goal, value):
        self.assertIs(value.__class__, tuple)
        self.assertEqual(len(value), len(demands(length, runners, goal)))
        self.assertTrue(all(item.__class__ is int for item in value))
        self.assertTrue(refuses(length, runners, goal, value))
        self.assertIs(is_refusal(race, goal, value), True)
        self.assertIs(is_refusal(race, goal, tuple(-item for item in value)), True)
        self.assertIs(is_refusal(race, goal, list(value)), False)
        self.assertIs(is_refusal(race, goal, value + (0,)), False)
        self.assertIs(is_refusal(race, goal, value[1:]), False)
        self.assertIsNone(goal_rows(race, goal)[-1][2])
        begin = ratio_of(begins_of(runners, goal)[-1])
        self.same(count_goal(race, goal, begin, BIG + 9), 0)

    def check_tuples(self, race, length, runners, goal, reached):
        """Small tuples are refusals exactly if the document says so, and none is if the goal is reached."""
        many = len(demands(length, runners, goal))
        values = range(-2, 3) if many < 4 else (-1, 0, 2)
        for value in product(values, repeat=many):
            wanted = refuses(length, runners, goal, value)
            self.assertIs(is_refusal(race, goal, value), wanted)
            self.assertFalse(wanted and reached)


class Examples(Case):
    def test_example_of_the_document(self):
        race = Race(10, {"a": (0, [(0, 0)]), "b": (1, [(0, 2)]), "c": (0, [(0, 4)])})
        self.same(refusal(race, ["a", "b", "c"]) is None, False)
        self.assertIs(is_refusal(race, ["a", "b", "c"], refusal(race, ["a", "b", "c"])), True)
        self.assertIsNone(refusal(race, ["a", "b"]))

    def test_order_of_the_conditions(self):
        # From time 2 on, a stands at place 0. Then b is at 5, and c at 8.
        race = closed()
        self.assertIs(is_refusal(race, ["a", "b", "c"], (-2, 1)), True)
        self.assertIs(is_refusal(race, ["a", "c", "b"], (-2, 1)), False)
        self.assertIs(is_refusal(race, ["a", "c", "b"], (1, -2)), True)
        self.assertIs(is_refusal(race, ("b", "a", "c"), (1, 1)), True)
        self.assertIs(is_refusal(race, ("b", "a", "c"), (-2, 1)), False)
        # Of a dict, the names count in sorted order.
        for goal in ({"c": 0, "b": 0}, {"b": 0, "c": 0}):
            self.assertIs(is_refusal(race, goal, (-2, 1)), True)
            self.assertIs(is_refusal(race, goal, (1, -2)), False)

    def test_sums_that_are_multiples_of_the_length(self):
        race = closed()
        for factor, wanted in ((1, True), (-3, True), (4, True), (5, False), (10, False), (0, False), (10 * BIG, False)):
            self.assertIs(is_refusal(race, ["a", "b", "c"], (-2 * factor, factor)), wanted)
        self.assertIs(is_refusal(race, ["a", "b", "c"], (-2 * BIG, BIG)), True)
        self.assertIs(is_refusal(race, ["a", "b", "c"], (-2, 2)), False)
        self.assertIs(is_refusal(race, ["a", "b", "c"], (0, 0)), False)

    def test_equal_speeds(self):
        race = Race(10, {"a": (0, [(0, 3)]), "b": (4, [(0, 3)]), "c": (10, [(0, 3)]), "d": (0, [(0, 1)])})
        self.assertIs(is_refusal(race, ["a", "b"], refusal(race, ["a", "b"])), True)
        self.assertIs(is_refusal(race, ["d", "a", "b"], refusal(race, ["d", "a", "b"])), True)
        self.assertIs(is_refusal(race, ["a", "b"], (7,)), True)
        self.assertIs(is_refusal(race, ["a", "b"], (5,)), False)
        self.assertIsNone(refusal(race, ["a", "c"]))
        self.assertIsNone(refusal(race, ["a", "c", "d"]))
        self.assertIs(is_refusal(race, ["a", "c"], (1,)), False)

    def test_a_standing_runner_and_a_wanted_place(self):
        race = Race(10, {"a": (3, [(0, 2), (4, 0)])})
        self.assertIsNone(refusal(race, {"a": 1}))
        self.assertIsNone(refusal(race, {"a": -29}))
        self.assertIs(is_refusal(race, {"a": 2}, refusal(race, {"a": 2})), True)
        self.assertIs(is_refusal(race, {"a": (1, 2)}, (1,)), True)
        self.assertIs(is_refusal(race, {"a": (1, 2)}, (20,)), False)

    def test_earlier_parts_do_not_count(self):
        race = Race(10, {"a": (0, [(0, 1), (5, 0)]), "b": (2, [(0, 0)])})
        self.same(count_goal(race, ["a", "b"], 0, 5), 1)
        self.assertIs(is_refusal(race, ["a", "b"], refusal(race, ["a", "b"])), True)

    def test_the_last_part_is_extended_backward(self):
        # They stay together from time 5 on, and would never meet with these speeds otherwise.
        race = Race(10, {"a": (0, [(0, 1), (5, 0)]), "b": (5, [(0, 0)])})
        self.assertIsNone(refusal(race, ["a", "b"]))

    def test_great_numbers_and_many_runners(self):
        race = Race(BIG, {"a": (0, [(0, 0)]), "b": ((1, 2), [(0, 1)]), "c": (0, [(0, (1, BIG))])})
        self.assertIsNone(refusal(race, ["a", "b"]))
        value = refusal(race, ["a", "b", "c"])
        self.assertIs(is_refusal(race, ["a", "b", "c"], value), True)
        names = "abcdefghijkl"
        runners = {name: (ratio_of(Fraction(at, 3)), [(0, at * at + 1), ((1, at + 1), -at)])
                   for at, name in enumerate(names, start=1)}
        crowd = Race((7, 3), runners)
        for goal in (list(names), {name: (1, 5) for name in names}):
            value = refusal(crowd, goal)
            self.assertIs(is_refusal(crowd, goal, value), True)
            self.assertTrue(refuses((7, 3), runners, goal, value))

    def test_different_units(self):
        runners = {"a": ((1, 3), [(0, (1, 2)), ((7, 5), (-3, 4))]), "b": ((2, 7), [(0, (5, 6))]),
                   "c": (0, [(0, 1), ((9, 4), (-3, 4))])}
        race = Race((5, 2), runners)
        for goal in (["a", "b"], ["a", "c"], ["c", "b", "a"], {"a": (1, 9)}, {"a": (1, 9), "b": 0}, {"c": 0, "a": 0}):
            value = refusal(race, goal)
            if value is None:
                self.assertEqual(len(demands((5, 2), runners, goal)), 1)
            else:
                self.assertTrue(refuses((5, 2), runners, goal, value))
                self.assertIs(is_refusal(race, goal, value), True)
        self.assertIs(is_refusal(race, ["a", "c"], (1,)), True)


class OtherValues(Case):
    def test_values_that_are_no_tuples_of_integers(self):
        race = closed()
        values = [None, True, False, 0, 1, "", "ab", b"ab", [], [-2, 1], {}, {-2: 1}, (), (1,), (-2,), (-2, 1, 0), (1, 2, 3),
                  ((-2, 1),), ("-2", "1"), (None, None), (-2, None), ((-2, 1), (1, 1)), object, object(), race, (-2.0, 1.0)]
        for value in values:
            with self.subTest(value=repr(value)):
                old = copied(value)
                self.assertIs(is_refusal(race, ["a", "b", "c"], value), False)
                self.assertEqual(value, old)

    def test_true_and_false(self):
        race = closed()
        # The sums would be those of a refusal if True were 1 and False were 0.
        self.assertIs(is_refusal(race, ["a", "b", "c"], (-2, 1)), True)
        self.assertIs(is_refusal(race, ["a", "b", "c"], (-2, True)), False)
        self.assertIs(is_refusal(race, ["b", "a", "c"], (1, 1)), True)
        self.assertIs(is_refusal(race, ["b", "a", "c"], (True, True)), False)
        stand = Race(10, {"a": (0, [(0, 0)]), "b": (1, [(0, 0)]), "c": (0, [(0, 1)])})
        self.assertIs(is_refusal(stand, ["a", "b", "c"], (1, 0)), True)
        self.assertIs(is_refusal(stand, ["a", "b", "c"], (1, False)), False)

    def test_errors(self):
        goals = [(value, InvalidGoal, {}) for value in (None, 0, "ab", [], (), {}, ["a"], ("a",), ["a", "a"], object)]
        goals += [(["a", name], UnknownName, {"name": name}) for name in NO_NAMES]
        goals += [({"a": "x", "zz": 0}, UnknownName, {"name": "zz"}), (["zz", "a", "a"], UnknownName, {"name": "zz"})]
        goals += [({"a": place}, InvalidGoal, {}) for place in NO_NUMBERS]
        for goal, error, fields in goals:
            self.fails(error, refusal, closed(), goal, **fields)
            for value in (None, (1,), (-2, 1)):
                self.fails(error, is_refusal, closed(), goal, value, **fields)

    def test_names_of_parameters(self):
        value = refusal(race=closed(), goal=["a", "b", "c"])
        self.assertIs(is_refusal(race=closed(), goal=["a", "b", "c"], value=value), True)
