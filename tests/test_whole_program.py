"""What holds for several files together: the interface, sessions with texts and consoles, and the examples."""

import doctest
import importlib
import inspect
import random

from laprunners.console import Console
from laprunners.cyclic_orders import order_changes
from laprunners.errors import Tied
from laprunners.events import listed_passes
from laprunners.exchanges import snapshot
from laprunners.gaps import gap_times
from laprunners.goals import goal_times
from laprunners.passes import pass_table
from laprunners.races import Race
from laprunners.relays import relay_map
from laprunners.sessions import Session
from laprunners.standings import standing
from laprunners.text_format import format_number, format_race, parse_number, parse_race
from tests.support import BIG, Case, fraction, pairs_of, ratio_of, small_races

FUNCTIONS = {
    "ratios": """is_integer(value) is_ratio(value) is_number(value) ratio(numerator,denominator=1) plus(first,second)
        minus(first,second) times(first,second) divided(first,second) compare(first,second) floor_of(value)
        remainder(value,modulus) in_order(values)""",
    "standings": "standing(race,time) order_after(race,time) gap(race,first,second,time) runners_ahead(race,name,time)",
    "gaps": """count_gap(race,first,second,value,start,end) gap_times(race,first,second,value,start,end)
        first_gap_time(race,first,second,value,after)""",
    "passes": "passes(race,over,under,start,end) pass_table(race,start,end) all_passes(race,start,end)",
    "exchanges": "snapshot(race,time) pass_parity(after,before)",
    "goals": """goal_rows(race,goal) count_goal(race,goal,start,end) goal_times(race,goal,start,end)
        nth_goal(race,goal,number,*,after=0) refusal(race,goal) is_refusal(race,goal,value) next_return(race,*,after=0)""",
    "events": """passes_at(race,time) nth_pass(race,number,*,after=0) pass_times(race,start,end)
        listed_passes(race,start,end)""",
    "cyclic_orders": """cyclic_order(race,time) order_changes(race,start,end)
        first_order(race,order,*,after=0,most=500)""",
    "relays": "relay_map(race,start,end) carrier(race,name,start,end) handovers(race,name,start,end)",
    "observations": """fitting_speeds(length,observations) is_no_speed(length,observations,value)
        count_speeds(length,observations,low,high) speeds_between(length,observations,low,high)
        next_look(length,observations,low,high,*,after=0)""",
    "text_format": "format_number(value) format_race(race) parse_number(text) parse_race(text)",
}
METHODS = {
    ("races", "Race"): """__init__(self,length,runners) __len__(self) names(self) start(self,name) pieces(self,name)
        change_times(self) position(self,name,time) place(self,name,time) laps(self,name,time) speed(self,name,time)
        changed(self,name,time,speed) without(self,name) renamed(self,names) turned(self,shift) reversed_ring(self)
        slowed(self,factor)""",
    ("exchanges", "Snapshot"): "__init__(self,rows) __len__(self) rows(self)",
    ("moments", "Moments"): "__init__(self,begin,step) count(self,time) after(self,time) __call__(self,time)",
    ("sessions", "Session"): """__init__(self,race) __len__(self) advance(self,time) set_speed(self,name,speed)
        stop(self,name) undo(self)""",
    ("console", "Console"): "__init__(self) execute(self,command)",
}
PROPERTIES = {
    ("races", "Race"): ["length"], ("moments", "Moments"): ["begin", "step"],
    ("sessions", "Session"): ["race", "clock", "steps"], ("console", "Console"): ["race"],
}


def form_of(name, value):
    """The name of a function and its parameters, as in the tables above."""
    return name + str(inspect.signature(value)).replace(" ", "")


class Interface(Case):
    def test_functions(self):
        for file, forms in FUNCTIONS.items():
            module = importlib.import_module("laprunners." + file)
            for form in forms.split():
                name = form.partition("(")[0]
                self.same(form_of(name, getattr(module, name)), form)
                self.same(getattr(module, name).__module__, module.__name__)

    def test_methods(self):
        for (file, kind), forms in METHODS.items():
            made = getattr(importlib.import_module("laprunners." + file), kind)
            self.same(made.__module__, "laprunners." + file)
            for form in forms.split():
                name = form.partition("(")[0]
                self.same(form_of(name, vars(made)[name]), form)
            for name in PROPERTIES.get((file, kind), []):
                self.assertIsInstance(vars(made)[name], property)
        for kind, names in ((("races", "Race"), "eq contains"), (("exchanges", "Snapshot"), "eq contains sub"),
                            (("moments", "Moments"), "eq getitem iter contains add mul and")):
            made = getattr(importlib.import_module("laprunners." + kind[0]), kind[1])
            self.assertLessEqual({"__" + name + "__" for name in names.split()}, set(vars(made)))

    def test_keywords_only(self):
        for file, forms in FUNCTIONS.items():
            module = importlib.import_module("laprunners." + file)
            for form in forms.split():
                parameters = inspect.signature(getattr(module, form.partition("(")[0])).parameters.values()
                kinds = {parameter.name: parameter.kind for parameter in parameters}
                for name, kind in kinds.items():
                    keyword = name in form.partition(",*,")[2].replace("=0", "").replace("=500", "").rstrip(")").split(",")
                    self.assertEqual(kind, inspect.Parameter.KEYWORD_ONLY if keyword
                                     else inspect.Parameter.POSITIONAL_OR_KEYWORD)


def random_session(race, source, many):
    """A session of a race after some steps, and the commands of a console for these steps."""
    session, commands = Session(race), []
    for _ in range(many):
        kind, name = source.choice(["advance", "speed", "stop", "undo"]), source.choice(race.names())
        if kind == "advance":
            time = ratio_of(fraction(session.clock) + source.choice([0, 1, fraction((3, 4))]))
            session.advance(time)
            commands.append("clock " + format_number(time))
        elif kind == "undo" and len(session):
            commands.append("undo")
            session.undo()
        elif kind != "undo" and len(session.race.pieces(name)) < 20:
            speed = source.choice([0, 2, (-5, 3)]) if kind == "speed" else 0
            session.set_speed(name, speed) if kind == "speed" else session.stop(name)
            commands.append("speed " + name + " " + format_number(speed))
    return session, commands


def history(race, clock):
    """What happened up to a time."""
    found = [standing(race, ratio_of(fraction(clock) * share)) for share in (0, fraction((1, 3)), 1)]
    found += [snapshot(race, clock).rows(), pass_table(race, 0, clock), relay_map(race, 0, clock)]
    found.append(listed_passes(race, 0, clock))
    for first, second in pairs_of(race.names())[:2]:
        found.append(gap_times(race, first, second, 0, 0, clock))
    if len(race) > 1:
        found.append(goal_times(race, {race.names()[0]: (1, 8), race.names()[1]: (1, 3)}, 0, clock))
    # The order just after the clock itself depends on the speeds from then on.
    found.append(orders_or_tied(race, 0, ratio_of(fraction(clock) * fraction((2, 3)))))
    return found


def orders_or_tied(race, start, end):
    """The changes of the order in a window, or the names of runners who stay together."""
    try:
        return order_changes(race, start, end)
    except Tied as error:
        return (error.first, error.second)


class Sessions(Case):
    def test_what_happened_before_the_clock_stays(self):
        source = random.Random(141)
        for length, runners in small_races(15, 142):
            session, _ = random_session(Race(length, runners), source, 8)
            session.advance(ratio_of(fraction(session.clock) + 1))
            clock, before = session.clock, history(session.race, session.clock)
            for name in session.race.names():
                if len(session.race.pieces(name)) < 20:
                    session.set_speed(name, (7, 2))
            session.advance(ratio_of(fraction(clock) + 2))
            session.stop(session.race.names()[0])
            self.same(history(session.race, clock), before)

    def test_texts_of_sessions(self):
        source = random.Random(143)
        for length, runners in small_races(30, 144):
            session, _ = random_session(Race(length, runners), source, 12)
            self.assertEqual(parse_race(format_race(session.race)), session.race)
            for step in session.steps:
                for number in step[-1:]:
                    self.same(parse_number(format_number(number)), number)

    def test_a_console_with_the_steps_of_a_session(self):
        source = random.Random(145)
        for length, runners in small_races(30, 146):
            first = {name: (start, [(0, pieces[0][1])]) for name, (start, pieces) in runners.items()}
            session, commands = random_session(Race(length, first), source, 14)
            console = Console()
            console.execute("ring " + format_number(length))
            for name, (start, pieces) in first.items():
                console.execute(" ".join(["runner", name, format_number(start), format_number(pieces[0][1])]))
            for command in commands:
                console.execute(command)
            self.assertEqual(console.race, session.race)
            self.same(console.execute("race"), format_race(session.race).replace("\n", "; "))
            # The steps of a session are the words of the commands, and what undo returns.
            for step in session.steps[::-1]:
                words = [word if isinstance(word, str) else format_number(word) for word in step]
                self.same(console.execute("undo"), " ".join(words))
            self.assertEqual(console.race, Race(length, first))

    def test_earlier_calls(self):
        for length, runners in small_races(8, 147):
            race, twin = Race(length, runners), parse_race(format_race(Race(length, runners)))
            found = history(race, 5)
            history(twin, 9)
            Session(twin).advance(BIG)
            self.same(history(twin, 5), found)
            self.same(history(race, 5), found)
            self.assertEqual(race, twin)


EXAMPLES = """
>>> from laprunners.ratios import plus, remainder
>>> plus((1, 2), (1, 6))
(2, 3)
>>> remainder((-1, 2), 3)
(5, 2)
>>> from laprunners.races import Race
>>> race = Race(10, {"a": (0, [(0, 3)]), "b": (5, [(0, 1), (4, -2)])})
>>> (race.position("b", 6), race.place("b", 6), race.laps("a", 7))
((5, 1), (5, 1), 2)
>>> from laprunners.passes import pass_table
>>> pass_table(race, 0, 10)
{('a', 'b'): 4}
>>> from laprunners.moments import Moments
>>> one, two = Moments(1, 4), Moments(0, 6)
>>> (one[2], 9 in one, (one & Moments(3, 6)).begin, one & two, one(8))
((9, 1), True, (9, 1), None, 2)
>>> from laprunners.goals import goal_times, nth_goal, refusal
>>> race = Race(10, {"a": (0, [(0, 0)]), "b": (1, [(0, 2)]), "c": (0, [(0, 4)])})
>>> (goal_times(race, ["a", "b"], 0, 10), nth_goal(race, {"b": 5, "c": 8}, 1), refusal(race, ["a", "b", "c"]) is None)
([(9, 2), (19, 2)], (2, 1), False)
>>> from laprunners.events import listed_passes, nth_pass
>>> race = Race(10, {"a": (0, [(0, 3)]), "b": (5, [(0, 1)])})
>>> (listed_passes(race, 0, 10), nth_pass(race, 10 ** 20)[0])
([((5, 2), 'a', 'b'), ((15, 2), 'a', 'b')], (999999999999999999995, 2))
>>> from laprunners.observations import fitting_speeds, next_look, speeds_between
>>> (fitting_speeds(12, [(2, 6)]), speeds_between(12, [(2, 6)], -5, 10), next_look(12, [(2, 6)], 0, 11))
((3, 6), [-3, 3, 9], 1)
"""


class Examples(Case):
    def test_examples_of_the_document(self):
        test = doctest.DocTestParser().get_doctest(EXAMPLES, {}, "examples", None, 0)
        result = doctest.DocTestRunner(verbose=False).run(test)
        self.assertEqual((result.failed, result.attempted), (0, 19))
