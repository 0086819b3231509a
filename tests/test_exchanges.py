"""Point 11: snapshots, net passes, and whether the number of all passes is odd."""

import random
from fractions import Fraction

from laprunners import exchanges
from laprunners.errors import InvalidSnapshot, InvalidTime, Tied
from laprunners.exchanges import Snapshot, pass_parity, snapshot
from laprunners.passes import all_passes, passes
from laprunners.races import Race
from laprunners.standings import standing
from tests.support import BIG, NO_NAMES, NO_RATIOS, NO_TIMES, WRONG_KINDS, Case, crowd, ratio_of, small_races

GOOD = {"b": ((1, 2), 3), "a": ((0, 1), -1)}
NO_SNAPSHOTS = [None, True, 0, 1, "a", [], ["a", "b"], {}, dict(GOOD), (GOOD,), object(), Race(1, {"a": (0, [(0, 0)])})]


def tied(race, time):
    """Whether two runners are at the same place at a time."""
    return len(standing(race, time)) < len(race)


def true_windows(race, times):
    """The windows between some times for which snapshots tell the truth: nobody meets at their ends and at changes."""
    free = [time for time in times if not tied(race, time)]
    changes = [time for time in race.change_times() if tied(race, time)]
    made = []
    for at, start in enumerate(free):
        for end in free[at:]:
            inside = [time for time in changes if start[0] * time[1] <= time[0] * start[1]
                      and time[0] * end[1] <= end[0] * time[1]]
            if not inside:
                made.append((start, end))
    return made


class Truth(Case):
    def check(self, race, times):
        """Check net passes and parity against passes in both directions; return in how many windows."""
        windows = true_windows(race, times)
        for start, end in windows:
            before, after = snapshot(race, start), snapshot(race, end)
            wanted = {}
            names = race.names()
            for at, first in enumerate(names):
                for second in names[at + 1:]:
                    net = passes(race, first, second, start, end) - passes(race, second, first, start, end)
                    wanted[(first, second)] = net
            self.same(after - before, wanted)
            self.same(before - after, {pair: -net for pair, net in wanted.items()})
            self.same(pass_parity(after, before), all_passes(race, start, end) % 2)
            self.same(pass_parity(before, after), all_passes(race, start, end) % 2)
        return len(windows)

    def test_net_passes_are_passes_in_one_direction_less_those_in_the_other(self):
        source = random.Random(21)
        seen = 0
        for length, runners in small_races(80, 22):
            times = sorted({source.randint(0, 13 * 12) for _ in range(5)})
            seen += self.check(Race(length, runners), [ratio_of(0)] + [ratio_of(time) for time in times])
            seen += self.check(Race(length, runners), [ratio_of(Fraction(7 * time + 1, 97)) for time in times])
        self.assertGreater(seen, 500)

    def test_a_crowd(self):
        race = Race((7, 2), crowd(12, 4))
        self.assertGreater(self.check(race, [(1, 11), (17, 7), (80, 11), (BIG, 11)]), 3)

    def test_far_away(self):
        race = Race(10, {"a": (0, [(0, 3)]), "b": (5, [(0, 1), (4, -2)]), "c": (2, [(0, -2)])})
        found = snapshot(race, 2 * BIG) - snapshot(race, 0)
        self.same(found[("a", "b")], all_passes(race.without("c"), 0, 2 * BIG))
        self.check(race, [(0, 1), (BIG, 1), (2 * BIG, 1), (10 ** 30, 1)])

    def test_odd_and_even(self):
        race = Race(10, {"a": (0, [(0, 3)]), "b": (5, [(0, 1), (4, -2)])})
        before = snapshot(race, 0)
        self.same([pass_parity(snapshot(race, time), before) for time in (0, 2, 3, 5, 6, 7, 8)],
                  [0, 0, 1, 1, 0, 0, 1])

    def test_built_and_taken_snapshots_alike(self):
        race = Race(10, {"b": (5, [(0, 1)]), "a": (0, [(0, 3)])})
        before = Snapshot({"b": ((5, 1), 0), "a": ((0, 1), 0)})
        after = Snapshot({"b": ((5, 1), 1), "a": ((0, 1), 3)})
        self.assertEqual(snapshot(race, 0), before)
        self.assertEqual(snapshot(race, 10), after)
        self.same(after - before, {("a", "b"): 2})
        self.same(after - snapshot(race, 0), {("a", "b"): 2})

    def test_places_and_laps_alone_count(self):
        before = Snapshot({"a": ((1, 2), 0), "b": ((1, 3), 0), "c": ((9, 1), 0)})
        after = Snapshot({"a": ((1, 4), BIG), "b": ((7, 1), -1), "c": ((2, 1), BIG - 1)})
        self.same(after - before, {("a", "b"): BIG, ("a", "c"): 1, ("b", "c"): -BIG + 1})
        self.same(pass_parity(after, before), 0)
        self.same(pass_parity(Snapshot({**after.rows(), "a": ((3, 1), BIG)}), before), 1)

    def test_one_runner(self):
        one = Snapshot({"a": ((1, 2), 0)})
        self.same(one - one, {})
        self.same(pass_parity(one, Snapshot({"a": ((1, 3), 7)})), 0)


class Taken(Case):
    def test_places_and_laps(self):
        race = Race((7, 2), crowd(12, 5))
        for time in [0, (1, 3), BIG, (BIG, 7)] + race.change_times()[:5]:
            found = snapshot(race, time)
            self.assertIs(found.__class__, Snapshot)
            self.same(found.rows(), {name: (race.place(name, time), race.laps(name, time)) for name in race.names()})

    def test_times(self):
        for time in NO_TIMES:
            self.fails(InvalidTime, snapshot, Race(1, {"a": (0, [(0, 0)])}), time)

    def test_the_race_stays(self):
        race = Race(10, {"b": (5, [(0, 1)]), "a": (0, [(0, 3)])})
        snapshot(race, 7).rows().clear()
        self.assertEqual(race, Race(10, {"b": (5, [(0, 1)]), "a": (0, [(0, 3)])}))
        self.same(snapshot(race, 7).rows(), {"a": ((1, 1), 2), "b": ((2, 1), 1)})


class Built(Case):
    def test_rows_are_sorted(self):
        found = Snapshot(GOOD).rows()
        self.same(found, {"a": ((0, 1), -1), "b": ((1, 2), 3)})

    def test_valid_rows(self):
        for rows in ({"a": ((0, 1), 0)}, {"z9": ((BIG, 7), -BIG)}, {"abcdefgh": ((1, BIG), BIG), "a": ((5, 1), 0)}):
            self.assertEqual(Snapshot(rows).rows(), rows)
        many = {"r" + str(at): ((at, 1), at) for at in range(40)}
        self.assertEqual(len(Snapshot(many)), 40)

    def test_no_rows(self):
        for rows in (None, True, 1, "a", "", [], [("a", ((0, 1), 0))], (), {}, Snapshot(GOOD), object()):
            with self.subTest(rows=rows):
                self.fails(InvalidSnapshot, Snapshot, rows)

    def refused(self, name, row):
        with self.subTest(name=name, row=row):
            self.fails(InvalidSnapshot, Snapshot, {name: row})
            self.fails(InvalidSnapshot, Snapshot, {"x": ((0, 1), 0), name: row})
            self.fails(InvalidSnapshot, Snapshot, {name: row, "x": ((0, 1), 0)})

    def test_names(self):
        for name in ["", "A", "aB", "1a", "a b", "a_b", "abcdefghi", "a\u00e4", "a\u0661", None, True, 0, 5, b"a", ("a",)]:
            self.refused(name, ((0, 1), 0))

    def test_places(self):
        for place in WRONG_KINDS + NO_RATIOS + [(-1, 1), (-1, 2), (-BIG, 7), (-1, BIG)]:
            self.refused("a", (place, 0))

    def test_integers_are_no_ratios(self):
        for place in (0, 1, -1, BIG):
            self.refused("a", (place, 0))

    def test_laps(self):
        for laps in WRONG_KINDS + NO_RATIOS + [(1, 2), (1, 1), (0, 1)]:
            self.refused("a", ((0, 1), laps))

    def test_tuples(self):
        for row in [None, True, 0, "ab", (), ((0, 1),), ((0, 1), 0, 0), [(0, 1), 0], {(0, 1): 0, 0: 0}, (0, (0, 1)), (0, 1)]:
            self.refused("a", row)

    def test_passed_and_returned_dicts_can_be_changed(self):
        rows = dict(GOOD)
        found = Snapshot(rows)
        self.assertEqual(rows, GOOD)
        rows["c"] = ((0, 1), 0)
        del rows["a"]
        self.same(found.rows(), {"a": ((0, 1), -1), "b": ((1, 2), 3)})
        found.rows().clear()
        found.rows()["a"] = ((7, 1), 0)
        self.same(found.rows(), {"a": ((0, 1), -1), "b": ((1, 2), 3)})
        self.assertEqual(found, Snapshot(GOOD))
        net = found - Snapshot({"a": ((0, 1), 0), "b": ((1, 2), 0)})
        net.clear()
        self.same(found - Snapshot({"a": ((0, 1), 0), "b": ((1, 2), 0)}), {("a", "b"): -4})


class Collection(Case):
    def test_len(self):
        self.assertEqual(len(Snapshot(GOOD)), 2)
        self.assertEqual(len(Snapshot({"a": ((0, 1), 0)})), 1)

    def test_in(self):
        found = Snapshot(GOOD)
        for name in ("a", "b"):
            self.assertIs(name in found, True)
        for value in NO_NAMES + ["c", ((0, 1), -1), found]:
            self.assertIs(value in found, False)
            self.assertIs(value not in found, True)

    def test_equality(self):
        one = Snapshot(GOOD)
        self.assertIs(one == one, True)
        self.assertIs(one == Snapshot(dict(sorted(GOOD.items()))), True)
        self.assertIs(one != Snapshot(dict(GOOD)), False)
        for rows in (
            {"b": ((1, 2), 3)}, {**GOOD, "c": ((0, 1), 0)}, {"c": ((1, 2), 3), "a": ((0, 1), -1)},
            {**GOOD, "a": ((0, 1), 0)}, {**GOOD, "b": ((1, 3), 3)}, {"b": ((0, 1), -1), "a": ((1, 2), 3)},
        ):
            self.assertIs(one == Snapshot(rows), False)
            self.assertIs(one != Snapshot(rows), True)
        for other in NO_SNAPSHOTS:
            self.assertIs(one == other, False)
            self.assertIs(other == one, False)
            self.assertIs(one != other, True)


class Differences(Case):
    def minus(self, after, before):
        return after - before

    def refused(self, error, after, before, **fields):
        self.fails(error, self.minus, after, before, **fields)
        self.fails(error, pass_parity, after, before, **fields)

    def test_no_snapshots(self):
        for value in NO_SNAPSHOTS:
            with self.subTest(value=value):
                self.refused(InvalidSnapshot, Snapshot(GOOD), value)
                self.fails(InvalidSnapshot, pass_parity, value, Snapshot(GOOD))
                self.fails(InvalidSnapshot, pass_parity, value, value)

    def test_other_runners(self):
        one = Snapshot(GOOD)
        for rows in ({"b": ((1, 2), 3)}, {**GOOD, "c": ((0, 1), 0)}, {"c": ((1, 2), 3), "a": ((0, 1), -1)}):
            self.refused(InvalidSnapshot, one, Snapshot(rows))
            self.refused(InvalidSnapshot, Snapshot(rows), one)

    def test_invalid_snapshots_come_before_ties(self):
        both = Snapshot({"a": ((1, 2), 0), "b": ((1, 2), 4)})
        more = Snapshot({"a": ((1, 2), 0), "b": ((1, 2), 4), "c": ((1, 2), 4)})
        self.refused(InvalidSnapshot, both, more)
        self.refused(InvalidSnapshot, more, both)
        self.refused(InvalidSnapshot, both, None)
        self.fails(InvalidSnapshot, pass_parity, None, both)

    def rows(self, places):
        return Snapshot({name: ((place, 1), at) for at, (name, place) in enumerate(zip("abcd", places))})

    def test_ties(self):
        free = self.rows([1, 2, 3, 4])
        for places, first, second in (
            ([1, 1, 1, 1], "a", "b"), ([1, 2, 2, 1], "a", "d"), ([1, 2, 1, 2], "a", "c"), ([4, 2, 3, 3], "c", "d"),
            ([4, 2, 2, 3], "b", "c"), ([3, 2, 2, 2], "b", "c"), ([0, 5, 6, 5], "b", "d"),
        ):
            self.refused(Tied, self.rows(places), free, first=first, second=second)
            self.refused(Tied, free, self.rows(places), first=first, second=second)
            self.refused(Tied, self.rows(places), self.rows([7, 7, 7, 7]), first=first, second=second)
        self.refused(Tied, self.rows([1, 1, 2, 3]), self.rows([1, 2, 3, 3]), first="a", second="b")
        self.refused(Tied, self.rows([1, 2, 3, 3]), self.rows([1, 1, 2, 3]), first="c", second="d")

    def test_ties_go_by_names_and_not_by_the_order_of_the_dict(self):
        after = Snapshot({"d": ((1, 1), 0), "c": ((2, 1), 0), "b": ((2, 1), 1), "a": ((1, 1), 9)})
        self.refused(Tied, after, after, first="a", second="d")

    def test_equal_places_at_different_laps_are_ties(self):
        one = Snapshot({"a": ((1, 2), 0), "b": ((1, 2), 1)})
        self.refused(Tied, one, Snapshot({"a": ((1, 2), 0), "b": ((1, 3), 1)}), first="a", second="b")

    def test_pairs_are_sorted(self):
        places = {"b": ((3, 1), 0), "a10": ((2, 1), 0), "a9": ((1, 1), 0), "a": ((0, 1), 0)}
        found = Snapshot(places) - Snapshot(places)
        self.assertEqual(list(found), [("a", "a10"), ("a", "a9"), ("a", "b"), ("a10", "a9"), ("a10", "b"), ("a9", "b")])
        self.assertEqual(set(found.values()), {0})


class Interface(Case):
    def test_names_of_parameters(self):
        race = Race(10, {"a": (0, [(0, 3)]), "b": (5, [(0, 1)])})
        self.assertEqual(snapshot(time=3, race=race), snapshot(race, 3))
        self.assertEqual(Snapshot(rows=GOOD), Snapshot(GOOD))
        self.same(pass_parity(before=snapshot(race, 0), after=snapshot(race, 3)), 1)

    def test_all_is_defined_here(self):
        for name in ("Snapshot", "snapshot", "pass_parity"):
            self.assertEqual(getattr(exchanges, name).__module__, "laprunners.exchanges")
        for name in ("rows", "__eq__", "__len__", "__contains__", "__sub__"):
            self.assertIn(name, vars(Snapshot))
