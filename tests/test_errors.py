"""The errors: base classes, fields, and that none is a subclass of another one."""

import inspect

from laprunners import errors
from tests.support import Case

WANTED = {
    "InvalidNumber": (ValueError, []),
    "InvalidLength": (ValueError, []),
    "InvalidRunner": (ValueError, ["name"]),
    "InvalidTime": (ValueError, []),
    "InvalidWindow": (ValueError, []),
    "InvalidGap": (ValueError, []),
    "InvalidSnapshot": (ValueError, []),
    "InvalidFactor": (ValueError, []),
    "InvalidNames": (ValueError, []),
    "ParseError": (ValueError, ["row"]),
    "InvalidCommand": (ValueError, []),
    "InvalidGoal": (ValueError, []),
    "InvalidCount": (ValueError, []),
    "InvalidOrder": (ValueError, []),
    "InvalidObservation": (ValueError, ["index"]),
    "UnknownName": (KeyError, ["name"]),
    "DivisionByZero": (ArithmeticError, []),
    "Tied": (LookupError, ["first", "second"]),
    "NoSpeed": (LookupError, ["refusal"]),
    "NothingToUndo": (RuntimeError, []),
    "NoRunners": (RuntimeError, []),
    "Together": (RuntimeError, ["time"]),
    "LimitExceeded": (OverflowError, ["limit"]),
}


class ErrorClasses(Case):
    def test_the_file_has_just_these_classes(self):
        found = {name for name, value in vars(errors).items() if inspect.isclass(value)}
        self.assertEqual(found, set(WANTED))

    def test_base_classes(self):
        for name, (base, _) in WANTED.items():
            with self.subTest(name=name):
                self.assertEqual(getattr(errors, name).__bases__, (base,))

    def test_none_is_a_subclass_of_another_one(self):
        for name in WANTED:
            for other in WANTED:
                if name != other:
                    self.assertFalse(issubclass(getattr(errors, name), getattr(errors, other)))

    def test_fields_hold_the_arguments_themselves(self):
        for name, (_, fields) in WANTED.items():
            for values in (["a", "b"], [None, None], [["a"], {"b": 1}], [(1, 2), 3]):
                with self.subTest(name=name, values=values):
                    values = values[:len(fields)]
                    by_position = getattr(errors, name)(*values)
                    by_name = getattr(errors, name)(**dict(zip(fields, values)))
                    for field, value in zip(fields, values):
                        self.assertIs(getattr(by_position, field), value)
                        self.assertIs(getattr(by_name, field), value)

    def test_fields_are_required(self):
        for name, (_, fields) in WANTED.items():
            if fields:
                with self.assertRaises(TypeError):
                    getattr(errors, name)()

    def test_they_can_be_raised_and_caught_by_their_base(self):
        for name, (base, fields) in WANTED.items():
            with self.assertRaises(base):
                raise getattr(errors, name)(*range(len(fields)))
