"""Promises [8] and [11]: the exception classes."""

import unittest

from pileups import errors

BASES = {"PlanError": ValueError, "MissingError": KeyError, "StateError": LookupError}

FIELDS = {
    "PlanError": {
        "InvalidInteger": "value", "InvalidName": "value", "InvalidEvents": "value", "InvalidTies": "value",
        "InvalidTie": "value", "InvalidLimits": "value", "InvalidPlan": "value", "InvalidText": "value",
        "InvalidCounts": "value", "InvalidRun": "value", "InvalidStock": "value", "InvalidAmounts": "value",
        "InvalidBounds": "value", "InvalidNames": "value", "InvalidCommand": "value", "InvalidCommands": "value",
        "InvalidLog": "value", "InvalidLogs": "value", "InvalidEntry": "value", "Duplicate": "name",
        "Ring": "members", "UnlikeEvents": "members", "TooMany": "bound",
    },
    "MissingError": {"UnknownEvent": "name", "NoTie": "index", "NoEntry": "name"},
    "StateError": {
        "Barred": "index", "NotMoment": "value", "NotBehind": "value", "TooLong": "total", "Endless": "event",
        "NotPossible": None, "Misfit": "index", "NotSafe": "index", "NoRun": None, "NothingToUndo": None,
        "NothingToRedo": None,
    },
}


def listed():
    """Return (base, class name, field) for each class that is no base."""
    return [(base, name, field) for base, names in FIELDS.items() for name, field in names.items()]


class TestErrors(unittest.TestCase):
    def test_bases(self):
        for name, python_base in BASES.items():
            base = getattr(errors, name)
            self.assertEqual(base.__bases__, (python_base,))
            self.assertEqual(base("why").args, ("why",))

    def test_each_class_is_directly_under_its_one_base(self):
        for base, name, field in listed():
            with self.subTest(name):
                self.assertEqual(getattr(errors, name).__bases__, (getattr(errors, base),))

    def test_each_class_is_under_no_other_class(self):
        classes = {name: value for name, value in vars(errors).items() if isinstance(value, type)}
        self.assertEqual(set(classes), set(BASES) | {name for base, name, field in listed()})
        for base, name, field in listed():
            above = [other for other in classes if issubclass(classes[name], classes[other])]
            self.assertEqual(sorted(above), sorted([base, name]))

    def test_each_class_is_defined_in_this_file(self):
        for base, name, field in listed():
            self.assertEqual(getattr(errors, name).__module__, "pileups.errors")

    def test_fields_keep_the_very_object(self):
        values = [None, True, 0, 10 ** 40, "a", "", [], [1], (), ("a",), {}, {"a": []}, errors.NoRun(), object()]
        for base, name, field in listed():
            if field is None:
                continue
            for value in values:
                with self.subTest(name=name, value=value):
                    error = getattr(errors, name)(value)
                    self.assertEqual(list(vars(error)), [field])
                    self.assertIs(getattr(error, field), value)

    def test_fields_are_not_copied(self):
        members = ["a"]
        error = errors.Ring(members)
        members.append("b")
        self.assertEqual(error.members, ["a", "b"])

    def test_a_field_must_be_given(self):
        for base, name, field in listed():
            if field is not None:
                with self.assertRaises(TypeError):
                    getattr(errors, name)()

    def test_classes_without_fields_are_made_without_arguments(self):
        without = [name for base, name, field in listed() if field is None]
        self.assertEqual(len(without), 4)
        for name in without:
            self.assertEqual(vars(getattr(errors, name)()), {})

    def test_they_are_raised_and_caught_by_their_bases(self):
        for base, name, field in listed():
            error = getattr(errors, name)() if field is None else getattr(errors, name)("x")
            with self.assertRaises(getattr(errors, base)) as caught:
                raise error
            self.assertIs(caught.exception, error)
            self.assertIsInstance(error, BASES[base])
            self.assertIsInstance(str(error), str)
            self.assertIsInstance(repr(error), str)


if __name__ == "__main__":
    unittest.main()
