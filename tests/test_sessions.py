"""Point 19: sessions, their steps, and how steps are undone."""

import random

from laprunners.errors import InvalidNumber, InvalidRunner, InvalidTime, NothingToUndo, UnknownName
from laprunners.races import Race
from laprunners.sessions import Session
from tests.support import BIG, NO_NAMES, NO_NUMBERS, NO_TIMES, Case, fraction, ratio_of, small_races


def sample():
    return Race(10, {"a": (0, [(0, 3)]), "b": (5, [(0, 1), (4, -2)])})


def state(session):
    """All that a session shows."""
    return session.race, session.clock, session.steps, len(session)


class Steps(Case):
    def check(self, session, race, clock, steps):
        self.assertEqual(session.race, race)
        self.same(session.clock, clock)
        self.same(session.steps, steps)
        self.same(len(session), len(steps))

    def test_steps_of_each_kind(self):
        race, session = sample(), Session(sample())
        self.check(session, race, (0, 1), [])
        self.assertIsNone(session.advance(3))
        self.check(session, race, (3, 1), [("advance", (3, 1))])
        self.assertIsNone(session.set_speed("a", (-1, 2)))
        slow = race.changed("a", 3, (-1, 2))
        steps = [("advance", (3, 1)), ("speed", "a", (-1, 2))]
        self.check(session, slow, (3, 1), steps)
        self.assertIsNone(session.stop("b"))
        stopped = slow.changed("b", 3, 0)
        steps = steps + [("speed", "b", (0, 1))]
        self.check(session, stopped, (3, 1), steps)
        session.advance((7, 2))
        self.check(session, stopped, (7, 2), steps + [("advance", (7, 2))])
        session.set_speed("b", 4)
        last = stopped.changed("b", (7, 2), 4)
        self.check(session, last, (7, 2), steps + [("advance", (7, 2)), ("speed", "b", (4, 1))])
        self.same(last.pieces("b"), [((0, 1), (1, 1)), ((3, 1), (0, 1)), ((7, 2), (4, 1))])

    def test_undoing(self):
        race, session = sample(), Session(sample())
        session.advance(3)
        session.set_speed("a", 7)
        session.set_speed("a", 8)
        session.advance(3)
        session.stop("a")
        self.same(session.undo(), ("speed", "a", (0, 1)))
        self.same(session.undo(), ("advance", (3, 1)))
        changed = race.changed("a", 3, 8)
        self.check(session, changed, (3, 1), [("advance", (3, 1)), ("speed", "a", (7, 1)), ("speed", "a", (8, 1))])
        self.same(session.undo(), ("speed", "a", (8, 1)))
        self.check(session, race.changed("a", 3, 7), (3, 1), [("advance", (3, 1)), ("speed", "a", (7, 1))])
        session.advance(5)
        self.same(session.undo(), ("advance", (5, 1)))
        self.same(session.undo(), ("speed", "a", (7, 1)))
        self.same(session.undo(), ("advance", (3, 1)))
        self.check(session, race, (0, 1), [])

    def test_undoing_too_often(self):
        session = Session(sample())
        for _ in range(2):
            self.fails(NothingToUndo, session.undo)
            self.check(session, sample(), (0, 1), [])
        session.advance(1)
        session.undo()
        self.fails(NothingToUndo, session.undo)
        self.check(session, sample(), (0, 1), [])

    def test_pieces_to_come_are_left_out(self):
        session = Session(sample())
        session.set_speed("b", 6)
        self.same(session.race.pieces("b"), [((0, 1), (6, 1))])
        session.undo()
        self.same(session.race.pieces("b"), sample().pieces("b"))
        session.advance(4)
        session.stop("b")
        self.same(session.race.pieces("b"), [((0, 1), (1, 1)), ((4, 1), (0, 1))])

    def test_many_steps_and_undos(self):
        source = random.Random(121)
        for length, runners in small_races(15, 122):
            race = Race(length, runners)
            session, history = Session(race), [(race, (0, 1))]
            steps = []
            for _ in range(40):
                kind = source.choice(["advance", "speed", "speed", "stop", "undo"])
                now, clock = history[-1]
                if kind == "undo" and steps:
                    self.same(session.undo(), steps.pop())
                    history.pop()
                elif kind == "advance":
                    time = ratio_of(fraction(clock) + source.choice([0, 1, fraction((1, 2)), fraction((5, 3))]))
                    session.advance(time)
                    history.append((now, time))
                    steps.append(("advance", time))
                elif kind in ("speed", "stop"):
                    name, speed = source.choice(race.names()), source.choice([0, 1, (-3, 2)]) if kind == "speed" else 0
                    if len(now.pieces(name)) == 20:
                        continue
                    session.set_speed(name, speed) if kind == "speed" else session.stop(name)
                    history.append((now.changed(name, clock, speed), clock))
                    steps.append(("speed", name, ratio_of(fraction(speed))))
                self.check(session, *history[-1], steps)


class Refused(Case):
    """A session does not change if a call raises."""

    def session(self):
        made = Session(sample())
        made.advance((5, 2))
        made.set_speed("a", 2)
        return made

    def unchanged(self, session, error, call, arguments, **fields):
        before = state(session)
        self.named(error, call, arguments, **fields)
        self.assertEqual(state(session), before)

    def test_times(self):
        session = self.session()
        for time in NO_TIMES + [0, 2, (1, 3), (249, 100), (5 * BIG - 1, 2 * BIG)]:
            with self.subTest(time=time):
                self.unchanged(session, InvalidTime, session.advance, {"time": time})
        session.advance((5, 2))
        self.same(session.clock, (5, 2))
        session.advance(BIG)
        self.unchanged(session, InvalidTime, session.advance, {"time": BIG - 1})

    def test_names_and_speeds(self):
        session = self.session()
        for name in NO_NAMES:
            for speed in (1, None):
                self.unchanged(session, UnknownName, session.set_speed, {"name": name, "speed": speed}, name=name)
            self.unchanged(session, UnknownName, session.stop, {"name": name}, name=name)
        for speed in NO_NUMBERS:
            self.unchanged(session, InvalidNumber, session.set_speed, {"name": "a", "speed": speed})

    def test_more_than_twenty_pieces(self):
        session = Session(Race(1, {"a": (0, [(0, 1)]), "b": (0, [(0, 1)])}))
        for time in range(1, 20):
            session.advance(time)
            session.set_speed("a", time)
        self.same(len(session.race.pieces("a")), 20)
        session.advance(20)
        for call, arguments in ((session.set_speed, {"name": "a", "speed": 1}), (session.stop, {"name": "a"})):
            self.unchanged(session, InvalidRunner, call, arguments, name="a")
        self.unchanged(session, InvalidNumber, session.set_speed, {"name": "a", "speed": "x"})
        session.stop("b")
        session.undo()
        session.undo()
        session.set_speed("a", 5)
        self.same(session.race.speed("a", 19), (5, 1))


class Apart(Case):
    def test_two_sessions_of_one_race(self):
        race = sample()
        one, two = Session(race), Session(race)
        one.advance(3)
        one.stop("a")
        self.assertEqual(state(two), (race, (0, 1), [], 0))
        two.set_speed("b", 9)
        one.undo()
        self.assertEqual(state(one), (race, (3, 1), [("advance", (3, 1))], 1))
        self.assertEqual(state(two), (race.changed("b", 0, 9), (0, 1), [("speed", "b", (9, 1))], 1))
        self.assertEqual(race, sample())

    def test_lists_of_steps_are_new(self):
        session = Session(sample())
        session.advance(3)
        session.steps.append(("advance", (9, 1)))
        session.steps.clear()
        self.same(session.steps, [("advance", (3, 1))])
        self.assertIsNot(session.steps, session.steps)
        kept = session.steps
        session.advance(4)
        self.same(kept, [("advance", (3, 1))])

    def test_properties_cannot_be_set(self):
        session = Session(sample())
        for name in ("race", "clock", "steps"):
            with self.assertRaises(AttributeError):
                setattr(session, name, None)
        self.assertEqual(state(session), (sample(), (0, 1), [], 0))

    def test_names_of_parameters(self):
        session = Session(race=sample())
        session.advance(time=2)
        session.set_speed(name="a", speed=(1, 2))
        session.stop(name="b")
        self.same(session.steps, [("advance", (2, 1)), ("speed", "a", (1, 2)), ("speed", "b", (0, 1))])
        for method in ("__init__", "__len__", "advance", "set_speed", "stop", "undo", "race", "clock", "steps"):
            self.assertIn(method, vars(Session))
