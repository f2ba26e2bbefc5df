import inspect
import unittest

from lettercell import errors

# Each class by its name: the class straight above it, and its fields in order.
TOLD = {
    "CellarError": ("ValueError", ()),
    "BadWord": ("CellarError", ()),
    "NoSuch": ("CellarError", ("name",)),
    "Doubled": ("CellarError", ("name",)),
    "Broken": ("CellarError", ("line",)),
    "SenderError": ("CellarError", ()),
    "Fenced": ("SenderError", ("life",)),
    "Gap": ("SenderError", ("due",)),
    "TooOld": ("SenderError", ("number",)),
    "LoanError": ("CellarError", ()),
    "Late": ("LoanError", ("row", "loan")),
    "NotYours": ("LoanError", ("row", "owner")),
    "Twice": ("LoanError", ("row", "loan")),
    "DeedError": ("CellarError", ()),
    "Busy": ("DeedError", ("deed",)),
    "NoDeed": ("DeedError", ("name",)),
    "RowError": ("CellarError", ()),
    "WrongKind": ("RowError", ("row",)),
    "Needed": ("RowError", ("row", "place")),
    "Gone": ("RowError", ("row", "place")),
    "Beyond": ("RowError", ("row", "place")),
}


class Nameless:
    def __repr__(self):
        raise RuntimeError("this thing shows nothing of itself")


def classes_above(name):
    above = [name]
    while above[-1] != "ValueError":
        above.append(TOLD[above[-1]][0])
    return above


def raised(error):
    try:
        raise error
    except errors.CellarError as caught:
        return caught


class TestErrors(unittest.TestCase):
    def test_all_classes_are_there_and_no_other(self):
        there = [name for name, thing in vars(errors).items() if inspect.isclass(thing)]
        self.assertEqual(sorted(there), sorted(TOLD))

    def test_each_is_of_its_own_classes_and_of_no_other(self):
        for name, (above, fields) in TOLD.items():
            caught = raised(getattr(errors, name)(*[7 for field in fields]))
            self.assertEqual(type(caught).__name__, name)
            self.assertIsInstance(caught, ValueError)
            for other in TOLD:
                with self.subTest(name=name, other=other):
                    is_above = other in classes_above(name)
                    self.assertEqual(isinstance(caught, getattr(errors, other)), is_above)

    def test_each_stands_straight_under_the_class_told(self):
        for name, (above, fields) in TOLD.items():
            with self.subTest(name=name):
                bases = [base.__name__ for base in getattr(errors, name).__bases__]
                self.assertEqual(bases, [above])

    def test_fields_are_told_in_their_order(self):
        for name, (above, fields) in TOLD.items():
            things = [f"thing {k}" for k in range(len(fields))]
            caught = raised(getattr(errors, name)(*things))
            with self.subTest(name=name):
                self.assertEqual([getattr(caught, field) for field in fields], things)
                self.assertEqual(sorted(vars(caught)), sorted(fields))

    def test_fields_are_whatever_things(self):
        things = [None, True, 0, -1, 10 ** 30, "", "a;~", [1], (2, 3), {"a": 1}, 1.5, b"b", Nameless(), {1}, object()]
        for name, (above, fields) in TOLD.items():
            for thing in things:
                caught = raised(getattr(errors, name)(*[thing for field in fields]))
                for field in fields:
                    with self.subTest(name=name, field=field):
                        self.assertIs(getattr(caught, field), thing)

    def test_classes_with_fields_need_them_all(self):
        for name, (above, fields) in TOLD.items():
            if fields:
                with self.subTest(name=name):
                    with self.assertRaises(TypeError):
                        getattr(errors, name)(*fields[1:])
                    with self.assertRaises(TypeError):
                        getattr(errors, name)(*fields, "one more")

    def test_two_refusals_share_nothing(self):
        one = errors.Late(1, 2)
        other = errors.Late(3, 4)
        self.assertEqual((one.row, one.loan, other.row, other.loan), (1, 2, 3, 4))
