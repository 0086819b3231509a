"""Point 20: texts of numbers and races, and the way back."""

from laprunners.errors import InvalidNumber, ParseError
from laprunners.races import Race
from laprunners.text_format import format_number, format_race, parse_number, parse_race
from tests.support import BIG, NO_NUMBERS, Case, crowd, fraction, ratio_of, small_races

SIXTY = 10 ** 60 - 1
NO_TEXTS = [None, True, 0, 5, (1, 2), b"1", b"ring 1", [], ["1"], {}, object]
NO_NUMBER_TEXTS = [
    "", " ", "-", "+", "+1", "--1", "-0", "00", "01", "-01", "1 ", " 1", "1\n", "\n", "1 2", "a", "1a", "0x1", "1e3", "1.0", "1_0",
    "/", "1/", "/2", "1/1", "-1/1", "2/4", "-2/4", "0/1", "0/5", "6/3", "1/0", "1/-2", "1/+2", "1/02", "01/2", "-0/3", "1//2",
    "1/2/3", "1 /2", "1/ 2", "1/2 ", "(1, 2)", "1:2", "\u0661", "\u00b2", "1\u00b2", "\u22121", "1/\u0662", "1\u00a0",
    "1" * 61, "-" + "1" * 61, "1/" + "3" * 61, "1" * 61 + "/2", "0" * 60, "1" + "0" * 5000, "\t1", "1\r", "None", "True",
]


class Numbers(Case):
    def test_formatted_numbers(self):
        for value, text in ((0, "0"), (5, "5"), (-5, "-5"), ((5, 1), "5"), ((-5, 1), "-5"), ((1, 2), "1/2"), ((-7, 3), "-7/3"),
                            (BIG, str(BIG)), ((0, 1), "0"), ((-1, BIG), "-1/" + str(BIG)), (SIXTY, "9" * 60)):
            self.same(format_number(value), text)
            self.same(format_number(value=value), text)
            self.same(parse_number(text), ratio_of(fraction(value)))
            self.same(parse_number(text=text), ratio_of(fraction(value)))

    def test_numbers_of_sixty_digits(self):
        for value in (SIXTY, -SIXTY, (SIXTY, 10 ** 59), (-SIXTY, 10 ** 59), (1 - 10 ** 60, 10 ** 60 - 2), (1, 10 ** 59)):
            text = format_number(value)
            self.same(parse_number(text), ratio_of(fraction(value)))
        # Formatting has no limit, but parsing has.
        for value in (10 ** 60, -10 ** 60, (1, 10 ** 60), (10 ** 60, 7)):
            self.assertIn("1" + "0" * 60, format_number(value))
            self.fails(ParseError, parse_number, format_number(value), row=0)
        self.same(len(format_number(10 ** 3999)), 4000)

    def test_numbers_that_are_no_numbers(self):
        for value in NO_NUMBERS:
            self.fails(InvalidNumber, format_number, value)

    def test_texts_that_are_no_numbers(self):
        for text in NO_NUMBER_TEXTS + NO_TEXTS:
            with self.subTest(text=repr(text)):
                self.fails(ParseError, parse_number, text, row=0)


class Races(Case):
    def test_a_race(self):
        race = Race((21, 2), {"b1": (-4, [(0, (1, 2)), ((7, 3), -2), (9, 0)]), "a": ((-1, 3), ((0, 0),)), "ring": (0, [(0, -7)])})
        text = "ring 21/2\na 61/6 0:0\nb1 13/2 0:1/2 7/3:-2 9:0\nring 0 0:-7"
        self.same(format_race(race), text)
        self.same(format_race(race=race), text)
        self.assertEqual(parse_race(text), race)
        self.assertEqual(parse_race(text=text), race)

    def test_texts_parsed_back(self):
        races = [Race(length, runners) for length, runners in small_races(60, 131)]
        races += [Race((7, 2), crowd(many, pieces)) for many in range(1, 13) for pieces in (1, 3, 20)]
        races += [Race((1, BIG), {"z9": (BIG, [(0, -BIG), ((1, BIG), (BIG, 7)), (SIXTY, 0)])})]
        for race in races:
            text = format_race(race)
            self.assertEqual(parse_race(text), race)
            self.same(format_race(parse_race(text)), text)
            rows = text.split("\n")
            self.assertEqual(parse_race("\n".join(rows[:1] + rows[:0:-1])), race)

    def test_starts_outside_the_ring(self):
        for start in ("3", "13", "-7", "1000000003", "-99997"):
            self.assertEqual(parse_race("ring 10\na " + start + " 0:1"), Race(10, {"a": (3, [(0, 1)])}))
        self.same(parse_race("ring 5/2\na -1/3 0:1").start("a"), (13, 6))
        self.same(format_race(parse_race("ring 10\nb 25 0:1\na -1 0:2")), "ring 10\na 9 0:2\nb 5 0:1")

    def test_the_longest_races(self):
        rows = [(at * (10 ** 58 + 3), (10 ** 58 + at, 10 ** 57 + 1)) for at in range(20)]
        rows = [(time, ratio_of(fraction(speed))) for time, speed in rows]
        race = Race(SIXTY, {"name%04d" % at: (at, rows) for at in range(4)})
        text = format_race(race)
        self.assertLess(len(text), 20000)
        self.assertEqual(parse_race(text), race)


class Faults(Case):
    GOOD = ["ring 10", "a 0 0:1 2:3/4", "b -1/2 0:0", "c 3 0:-1 1:0 5/2:7"]

    def check(self, rows, row):
        text = rows if isinstance(rows, str) else "\n".join(rows)
        with self.subTest(text=text):
            self.fails(ParseError, parse_race, text, row=row)

    def test_values_that_are_no_strings(self):
        for value in NO_TEXTS + [self.GOOD, "\n".join(self.GOOD).encode()]:
            self.fails(ParseError, parse_race, value, row=0)

    def test_first_rows(self):
        self.assertEqual(len(parse_race("\n".join(self.GOOD))), 3)
        for row in ("", " ", "ring", "ring ", "ring  10", " ring 10", "ring 10 ", "ring 10 5", "ring\t10", "Ring 10", "rin 10", "10",
                    "ring 0", "ring -1", "ring -1/2", "ring +10", "ring 010", "ring 20/2", "ring 10/1", "ring 1.5", "ring x",
                    "ring -0", "ring 1" + "0" * 60, "ringo 10", "a 0 0:1", "ring: 10", "ring 10\r"):
            self.check([row] + self.GOOD[1:], 0)
            self.check([row], 0)
            self.check([row, "x"], 0)

    def test_rows_of_runners(self):
        bad = ["", " ", "d", "d 0", "d 0 ", "d  0 0:1", " d 0 0:1", "d 0 0:1 ", "d 0  0:1", "d 0 0:1  2:3", "d\t0 0:1", "d 0 0:1\r",
               "D 0 0:1", "1d 0 0:1", "d_ 0 0:1", "d23456789 0 0:1", "\u00e9 0 0:1", "\u0663a 0 0:1", "d\u0663 0 0:1",
               "d +0 0:1", "d -0 0:1", "d 00 0:1", "d 1/1 0:1", "d 2/4 0:1", "d x 0:1", "d 0 0:+1", "d 0 0:-0", "d 0 0:01",
               "d 0 0:2/2", "d 0 0:4/6", "d 0 0:1/-2", "d 0 0", "d 0 :1", "d 0 0:", "d 0 :", "d 0 0:1:2", "d 0 0;1", "d 0 0: 1",
               "d 0 0 :1", "d 0 1:1", "d 0 1/2:1", "d 0 -1:1", "d 0 0:1 0:2", "d 0 0:1 2:3 2:4", "d 0 0:1 3:3 2:4", "d 0 0:1 -1:4",
               "d 0 0:1 1/2:3 1/3:1", "d 0 0:1 2", "d 0 0:1 x", "d 0 00:1", "d 0 -0:1", "d 0 0/1:1", "d 0 0:1," + "1:2",
               "d 1" + "0" * 60 + " 0:1", "d 0 0:1" + "0" * 60, "d 0 0:1 1" + "0" * 60 + ":1", "ring 10", "d 0 0:1 1:2 ",
               "d 0 " + " ".join(str(at) + ":1" for at in range(21)), "a 0 0:1", "c 7 0:0", "a 0 x"]
        for row in bad:
            self.check(self.GOOD + [row], 4)
            self.check(self.GOOD + [row, "e 0 0:1"], 4)
        for row in bad[:-3]:
            self.check([self.GOOD[0], row] + self.GOOD[1:], 1)
            self.check([self.GOOD[0], row], 1)
            self.check(self.GOOD[:2] + [row] + self.GOOD[2:], 2)
        good = "d 0 " + " ".join(str(at) + ":1" for at in range(20))
        self.same(len(parse_race("\n".join(self.GOOD + [good, "abcdefg8 0 0:1"]))), 5)

    def test_names_that_are_repeated(self):
        self.check(self.GOOD + [self.GOOD[1]], 4)
        self.check([self.GOOD[0], self.GOOD[1], self.GOOD[1], self.GOOD[2]], 2)
        self.check(self.GOOD + ["d 0 0:1", "b 1 0:1", "a 1 0:1"], 5)

    def test_numbers_of_runners(self):
        rows = ["ring 3"] + ["r" + str(at) + " 0 0:" + str(at) for at in range(14)]
        self.check("ring 10", 0)
        self.same(len(parse_race("\n".join(rows[:13]))), 12)
        self.check(rows[:14], 13)
        self.check(rows, 14)
        self.check(rows + ["x"], 15)
        self.check(rows[:14] + ["r0 0 0:1"] + rows[14:], 14)
        self.check(rows + ["r3 0 0:1", "y 0 0:1"], 15)

    def test_line_feeds(self):
        self.check("", 0)
        self.check("\n", 0)
        self.check("\nring 10\na 0 0:1", 0)
        self.check("\n".join(self.GOOD) + "\n", 4)
        self.check("ring 10\n", 1)
        self.check("ring 10\n\na 0 0:1", 1)
        self.check("ring 10\na 0 0:1\n\n", 2)
        self.check("ring 10; a 0 0:1", 0)
        self.check("ring 10\r\na 0 0:1", 0)
        self.check("ring 10\na 0 0:1\r\nb 0 0:1", 1)
        self.check("ring 10\na 0 0:1\x0bb 0 0:1", 1)
        self.check("ring 10\na 0 0:1\u2028b 0 0:1", 1)

    def test_the_row_of_two_faults(self):
        self.check(["ring 0", "x", "y"], 0)
        self.check(["ring 1", "x", "y"], 1)
        self.check(["ring 1", "a 0 0:1", "x", "a 0 0:1"], 2)
        self.check(["ring 1", "a 0 0:1", "a 0 0:1", "x"], 2)
        self.check(["ring 1", "a 0 0:1", "b 0 0:1", "", ""], 3)
        self.check(["ring 1", "a 2/2 1:1 0:1", "a 0 0:1"], 1)
        self.check(["ring -1", "a 0 0:1", "a 0 0:1"], 0)
        self.check(["ring 1"] + ["r" + str(at) + " 0 0:1" for at in range(20)] + ["", "r1 0 0:1"], 21)
