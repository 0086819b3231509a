"""Point 21: the commands of a console and their answers."""

from laprunners.console import Console
from laprunners.errors import (
    InvalidCommand, InvalidCount, InvalidGoal, InvalidNumber, InvalidRunner, InvalidTime, InvalidWindow, NoRunners,
    NothingToUndo, Together, UnknownName,
)
from laprunners.events import nth_pass
from laprunners.goals import nth_goal
from laprunners.passes import all_passes, passes
from laprunners.races import Race
from laprunners.standings import gap, standing
from laprunners.text_format import format_number, format_race
from tests.support import BIG, Case
from tests.test_text_format import NO_NUMBER_TEXTS

# Words that are no names of runners in the races below.
WORDS = ["zz", "A", "a,", "1", "-", "ok", "a.b", "nine12345", "\u00e9", "\t", "a\t", "\r", "\u00a0", "\u2028", "ring", "0:1", "_"]
# Of these, one could be the name of a runner, and so could "ok" and "ring".
NAMES = ["zz", "ok", "ring"]


def run(*commands):
    """A console after these commands."""
    console = Console()
    for command in commands:
        console.execute(command)
    return console


def sample():
    return run("ring 10", "runner a 0 3", "runner b 15 1")


class Answers(Case):
    def check(self, console, *rows):
        """Execute commands and check their answers."""
        for command, answer in rows:
            with self.subTest(command=command):
                self.same(console.execute(command), answer)

    def test_setting_up(self):
        console = Console()
        self.check(console, ("runner x 5/2 -1", "ok"), ("race", "ring 1; x 1/2 0:-1"), ("ring 10/3", "ok"))
        self.fails(NoRunners, console.execute, "race")
        self.check(console, ("runner b 5 1/2", "ok"), ("runner a -1 0", "ok"), ("race", "ring 10/3; a 7/3 0:0; b 5/3 0:1/2"))
        self.assertEqual(console.race, Race((10, 3), {"a": (-1, [(0, 0)]), "b": (5, [(0, (1, 2))])}))

    def test_clock_speed_and_undo(self):
        console = sample()
        self.check(console, ("clock 4", "ok"), ("speed b -2", "ok"), ("race", "ring 10; a 0 0:3; b 5 0:1 4:-2"),
                   ("speed b -2/3", "ok"), ("clock 4", "ok"), ("clock 9/2", "ok"), ("speed a 0", "ok"),
                   ("race", "ring 10; a 0 0:3 9/2:0; b 5 0:1 4:-2/3"), ("undo", "speed a 0"), ("undo", "advance 9/2"),
                   ("undo", "advance 4"), ("undo", "speed b -2/3"), ("race", "ring 10; a 0 0:3; b 5 0:1 4:-2"),
                   ("undo", "speed b -2"), ("undo", "advance 4"), ("race", "ring 10; a 0 0:3; b 5 0:1"))
        self.fails(NothingToUndo, console.execute, "undo")

    def test_a_new_runner_starts_a_new_session(self):
        console = sample()
        self.check(console, ("clock 4", "ok"), ("speed b 7", "ok"), ("runner c 2 0", "ok"),
                   ("race", "ring 10; a 0 0:3; b 5 0:1 4:7; c 2 0:0"))
        self.fails(NothingToUndo, console.execute, "undo")
        self.check(console, ("clock 1", "ok"), ("undo", "advance 1"))

    def test_questions(self):
        console = run("ring 10", "runner a 0 3", "runner b 5 1", "runner cc -1/3 0", "clock 4", "speed b -2", "clock 11/2")
        race = Race(10, {"a": (0, [(0, 3)]), "b": (5, [(0, 1), (4, -2)]), "cc": ((-1, 3), [(0, 0)])})
        self.assertEqual(console.race, race)
        for time in ("0", "4", "7/3", "1000"):
            number = tuple(map(int, time.split("/"))) if "/" in time else int(time)
            rows = [(name, format_number(race.place(name, number)), str(race.laps(name, number))) for name in race.names()]
            for name, place, laps in rows:
                self.check(console, ("place " + name + " " + time, place), ("laps " + name + " " + time, laps))
            self.check(console, ("gap a b " + time, format_number(gap(race, "a", "b", number))),
                       ("gap cc cc " + time, "0"), ("passes a b 0 " + time, str(passes(race, "a", "b", 0, number))),
                       ("total 0 " + time, str(all_passes(race, 0, number))))
            wanted = " ".join(format_number(place) + ":" + ",".join(names) for place, names in standing(race, number))
            self.check(console, ("order " + time, wanted))
        for number in (1, 2, 5, 10 ** 20):
            time, over, under = nth_pass(race, number, after=(11, 2))
            self.check(console, ("nth " + str(number), format_number(time) + " " + over + " " + under))
        for names in ("a b", "b a", "cc a", "a b cc"):
            time = nth_goal(race, names.split(" "), 1, after=(11, 2))
            self.check(console, ("meet " + names, "-" if time is None else format_number(time)))
        self.check(console, ("place b 5", "7"), ("laps cc 5", "0"), ("laps a 10", "3"), ("order 5/2", "15/2:a,b 29/3:cc"),
                   ("race", format_race(race).replace("\n", "; ")))

    def test_negative_laps(self):
        self.check(run("ring 1/2", "runner a 0 -1/3"), ("laps a 1", "-1"), ("laps a 100", "-67"), ("place a 1", "1/6"))

    def test_nothing(self):
        console = run("ring 10", "runner a 0 1", "runner b 5 0")
        self.check(console, ("nth 1", "5 a b"), ("meet a b", "5"), ("clock 5", "ok"), ("nth 1", "15 a b"), ("meet b a", "15"),
                   ("clock 7", "ok"), ("speed a 0", "ok"), ("nth 1", "-"), ("nth " + "9" * 60, "-"), ("meet a b", "-"),
                   ("total 0 1000", "1"), ("undo", "speed a 0"), ("meet a b", "15"))
        console = run("ring 10", "runner a 0 1", "runner b 5 1")
        self.check(console, ("nth 1", "-"), ("meet a b", "-"), ("total 0 1000", "0"), ("passes b a 0 " + "9" * 60, "0"))

    def test_meeting_after_a_stay(self):
        console = run("ring 10", "runner a 0 1", "runner b 5 0", "clock 5", "speed a 0", "clock 6")
        self.fails(Together, console.execute, "meet a b", time=(6, 1))
        self.check(console, ("undo", "advance 6"), ("undo", "speed a 0"), ("meet a b", "15"), ("undo", "advance 5"),
                   ("meet a b", "5"))

    def test_words_of_sixty_digits(self):
        great = "9" * 60
        console = run("ring " + great, "runner a " + great + " -" + great, "runner b 1/" + great + " 0")
        self.check(console, ("place a 1", "0"), ("laps a 1", "-1"), ("clock " + great, "ok"), ("undo", "advance " + great))

    def test_a_new_ring_removes_all(self):
        console = sample()
        self.check(console, ("clock 3", "ok"), ("ring 7", "ok"))
        for command in ("race", "undo", "clock 4", "nth 1", "meet a b", "meet", "place a 0", "total 0 1"):
            self.fails(NoRunners, console.execute, command)
        self.check(console, ("runner a 0 1", "ok"), ("race", "ring 7; a 0 0:1"), ("clock 0", "ok"))

    def test_twelve_runners(self):
        console = run("ring 5", *["runner r" + str(at) + " " + str(at) + " 1" for at in range(12)])
        before = console.execute("race")
        self.fails(InvalidRunner, console.execute, "runner x 0 1", name=None)
        self.check(console, ("race", before))
        self.assertEqual(len(console.race), 12)

    def test_names_of_parameters(self):
        console = Console()
        self.same(console.execute(command="ring 3"), "ok")
        with self.assertRaises(AttributeError):
            console.race = None
        for name in ("__init__", "race", "execute"):
            self.assertIn(name, vars(Console))


class Commands(Case):
    """Commands that have no form of a command, and those that are refused."""

    FORMS = {
        "ring": "5", "runner": "c 0 1", "clock": "2", "speed": "a 1", "undo": "", "race": "", "place": "a 1", "laps": "a 1",
        "gap": "a b 1", "passes": "a b 0 1", "total": "0 1", "order": "1", "nth": "1",
    }

    def unchanged(self, console, error, command, **fields):
        """Check that a command raises an error and changes nothing."""
        with self.subTest(command=repr(command)):
            before = self.state(console)
            self.fails(error, console.execute, command, **fields)
            self.assertEqual(self.state(console), before)

    def state(self, console):
        """What a console tells: its race, and the clock and the steps of its session, which are done again afterwards."""
        try:
            race = console.execute("race")
        except NoRunners:
            return None
        steps = []
        try:
            while True:
                steps.append(console.execute("undo").replace("advance", "clock"))
        except NothingToUndo:
            pass
        for command in steps[::-1]:
            console.execute(command)
        return race, steps

    def consoles(self):
        """A console without runners, and one with runners and steps."""
        return [run("ring 10"), run("ring 10", "runner a 0 3", "runner b 5 1", "clock 1", "speed a 2", "clock 3/2")]

    def test_forms(self):
        for console in self.consoles():
            for word, more in self.FORMS.items():
                command = (word + " " + more).strip()
                wrong = [command + " 1", command + " a", command + " ", " " + command, command + "\n", "\n" + command,
                         word.upper() + command[len(word):], command + "\n" + command, command.replace(" ", "  ", 1) + "  ",
                         "x" + command, word + "x" + command[len(word):], command + "; " + command]
                words = command.split(" ")
                if len(words) > 1:
                    wrong += [" ".join(words[:-1]), word, command.replace(" ", "\n", 1), command.replace(" ", "\t", 1),
                              word + "  " + more, word + " " + more.replace(" ", "  ") + " ", " ".join(words[1:])]
                if len(words) > 2:
                    wrong += [" ".join([word, words[1], "", *words[2:]]), word + " " + more.replace(" ", "  ")]
                for text in wrong:
                    self.unchanged(console, InvalidCommand, text)

    def test_other_values(self):
        for console in self.consoles():
            for value in (None, True, 0, 5, b"race", ["race"], ("race",), {}, [], object, "", " ", "\n", "  ", "-", "ok", "help",
                          "advance 5", "stop a", "meet  a b", "meet ", "meet a b ", " meet a b", "meet a\nb", "meets a b", "race\n",
                          "Meet a b", "undo undo", "race;", "ring\u00a05", "place\ta\t1"):
                self.unchanged(console, InvalidCommand, value)

    def test_numbers(self):
        bad = [text for text in NO_NUMBER_TEXTS if text and " " not in text and "\n" not in text]
        for console in self.consoles():
            for word, more in self.FORMS.items():
                words = more.split(" ")
                for at, good in enumerate(words):
                    if good[:1].isdigit():
                        for text in bad:
                            self.unchanged(console, InvalidCommand, " ".join([word, *words[:at], text, *words[at + 1:]]))

    def test_lengths(self):
        for console in self.consoles():
            for length in ("0", "-1", "-1/2", "-" + "9" * 60):
                self.unchanged(console, InvalidCommand, "ring " + length)
        console = sample()
        console.execute("ring 1/2")
        console.execute("runner a 1 1")
        self.same(console.execute("place a 0"), "0")

    def test_runners(self):
        console = self.consoles()[1]
        for name in ("a", "b"):
            self.unchanged(console, InvalidCommand, "runner " + name + " 0 1")
        for name in WORDS:
            if name not in NAMES:
                self.unchanged(console, InvalidRunner, "runner " + name + " 0 1", name=name)
                self.fails(InvalidRunner, Console().execute, "runner " + name + " 0 1", name=name)
                self.unchanged(console, InvalidCommand, "runner " + name + " 0 1/1")
        self.unchanged(console, InvalidCommand, "runner a 0 x")
        for name in NAMES:
            self.same(run("runner " + name + " 0 1").race.names(), [name])

    def test_no_runners(self):
        for console in (Console(), run("ring 10"), run("runner a 0 1", "ring 3")):
            for word, more in self.FORMS.items():
                if word not in ("ring", "runner"):
                    self.fails(NoRunners, console.execute, (word + " " + more).strip())
            for command in ("meet", "meet a", "meet a a", "meet \t", "nth 0", "nth -5", "clock -1", "total 5 1", "place A -1",
                            "passes zz zz 5 1"):
                self.fails(NoRunners, console.execute, command)
            for command in ("nth 1/2", "total 1", "clock x", "place a 1/1"):
                self.fails(InvalidCommand, console.execute, command)
            with self.assertRaises(NoRunners) as caught:
                console.race
            self.assertIs(caught.exception.__class__, NoRunners)

    def test_names(self):
        console = self.consoles()[1]
        for name in WORDS:
            for command in ("speed NAME 1", "place NAME 1", "laps NAME 1", "gap NAME a 1", "gap a NAME 1", "passes NAME a 0 1",
                            "passes a NAME 0 1", "meet NAME a", "meet a NAME", "meet a b NAME", "place NAME -1", "laps NAME -1",
                            "gap a NAME -1", "passes NAME a 1 0", "passes a NAME -1 0", "meet NAME a a"):
                self.unchanged(console, UnknownName, command.replace("NAME", name), name=name)
        self.unchanged(console, UnknownName, "gap yy zz 1", name="yy")
        self.unchanged(console, UnknownName, "passes yy zz -1 -2", name="yy")

    def test_times_and_windows(self):
        console = self.consoles()[1]
        for command in ("clock -1", "clock 1", "clock 149/100", "clock 0", "place a -1", "laps a -1/2", "gap a b -1", "order -1",
                        "passes a b -1 5", "passes a b 0 -1", "total -1 5", "total 0 -1/3", "total -1 -2", "passes a b -1 -2"):
            self.unchanged(console, InvalidTime, command)
        for command in ("total 5 1", "total 1/2 1/3", "passes a b 5 0", "passes a a 5 0"):
            self.unchanged(console, InvalidWindow, command)

    def test_counts(self):
        console = self.consoles()[1]
        for number in ("0", "-1", "-" + "9" * 60):
            self.unchanged(console, InvalidCount, "nth " + number)
        for number in ("1/2", "3/2", "-1/2"):
            self.unchanged(console, InvalidCommand, "nth " + number)

    def test_meetings(self):
        console = run("ring 10", "runner a 0 1", "runner b 3 1", "runner c 10 1", "clock 2")
        for command in ("meet", "meet a", "meet zz", "meet a a", "meet a b a"):
            self.unchanged(console, InvalidGoal, command)
        self.unchanged(console, Together, "meet a c", time=(2, 1))
        self.unchanged(console, Together, "meet c a", time=(2, 1))
        self.same(console.execute("meet a b"), "-")
        self.same(console.execute("meet a b c"), "-")

    def test_too_many_pieces(self):
        console = run("ring 10", "runner a 0 1")
        for at in range(1, 20):
            console.execute("clock " + str(at))
            console.execute("speed a " + str(at))
        console.execute("clock 20")
        self.unchanged(console, InvalidRunner, "speed a 0", name="a")
        self.fails(InvalidNumber, console.race.changed, "a", 20, "0")
        self.assertEqual(len(console.race.pieces("a")), 20)

    def test_two_consoles(self):
        one, two = sample(), sample()
        one.execute("clock " + str(BIG))
        one.execute("speed a 0")
        self.same(two.execute("clock 1"), "ok")
        self.same(two.execute("race"), "ring 10; a 0 0:3; b 5 0:1")
        self.fails(NoRunners, Console().execute, "race")
