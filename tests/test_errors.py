"""[11], [8], [9]: the exception classes, their bases and their fields."""

import inspect
import unittest

import toldpast.errors as errors
from helpers import any_values

BASES = {"NetError": ValueError, "MissingError": KeyError, "StateError": LookupError}

FIELDS = {
    "NetError": {
        "InvalidInteger": ["value"], "InvalidPart": ["value"], "InvalidName": ["value"], "Duplicate": ["name"],
        "InvalidRow": ["value"], "InvalidEdge": ["value"], "InvalidNet": ["value"], "Ring": ["gates"],
        "Dry": ["name"], "Idle": ["name"], "InvalidBook": ["value"], "InvalidTurn": ["value"],
        "InvalidMeaning": ["value"], "InvalidValues": ["value"], "InvalidString": ["value"],
        "InvalidLine": ["index"], "DuplicateTerm": ["number"], "Mismatch": ["other"], "InvalidLags": ["value"],
        "InvalidStep": ["value"], "InvalidWish": ["value"], "InvalidCommand": ["value"],
    },
    "MissingError": {
        "UnknownSource": ["name"], "UnknownGate": ["name"], "UnknownEdge": ["reader", "slot"],
        "UnknownSymbol": ["name"], "UnknownSample": ["name", "index"], "UnknownTerm": ["number"],
    },
    "StateError": {
        "NoTurn": [], "TooLong": ["number"], "TooShort": ["reader", "slot"], "TooDeep": ["name"],
        "TooMany": ["most"], "EmptyLoop": ["out"], "NothingToUndo": [],
    },
}


def each_class():
    """Each class below a base, with the base and the names of its fields."""
    for base, classes in FIELDS.items():
        for name, fields in classes.items():
            yield getattr(errors, name), getattr(errors, base), fields


class TestBases(unittest.TestCase):

    def test_each_base_is_directly_below_its_builtin(self):
        for name, builtin in BASES.items():
            self.assertEqual((builtin,), getattr(errors, name).__bases__)

    def test_bases_are_made_of_one_string(self):
        for name in BASES:
            base = getattr(errors, name)
            self.assertEqual(("some words",), base("some words").args)
            with self.assertRaises(base):
                raise base("some words")

    def test_a_base_catches_its_classes_and_no_others(self):
        for made, base, fields in each_class():
            for name in BASES:
                self.assertEqual(base.__name__ == name, issubclass(made, getattr(errors, name)), made)


class TestClasses(unittest.TestCase):

    def test_the_module_has_just_the_listed_classes(self):
        listed = list(BASES) + [made.__name__ for made, _, _ in each_class()]
        found = [name for name, value in vars(errors).items() if inspect.isclass(value)]
        self.assertEqual(sorted(listed), sorted(found))

    def test_each_class_is_directly_below_one_base(self):
        for made, base, _ in each_class():
            self.assertEqual((base,), made.__bases__)
            self.assertEqual("toldpast.errors", made.__module__)

    def test_parameters_have_the_names_of_the_fields(self):
        for made, _, fields in each_class():
            self.assertEqual(fields, list(inspect.signature(made).parameters), made)

    def test_fields_are_the_very_objects_by_position_and_by_name(self):
        for made, base, fields in each_class():
            for value in any_values():
                given = {name: [value, name] for name in fields}
                by_position = made(*[given[name] for name in fields])
                by_name = made(**given)
                for error in (by_position, by_name):
                    self.assertEqual(sorted(fields), sorted(vars(error)))
                    self.assertTrue(all(getattr(error, name) is given[name] for name in fields))
                    with self.assertRaises(base) as caught:
                        raise error
                    self.assertIs(error, caught.exception)

    def test_one_argument_for_each_field_and_no_other(self):
        for made, _, fields in each_class():
            self.assertRaises(TypeError, made, *([1] * (len(fields) + 1)))
            self.assertRaises(TypeError, made, other_name=1)
            if fields:
                self.assertRaises(TypeError, made)

    def test_fields_are_not_copied(self):
        gates = ["g"]
        error = errors.Ring(gates)
        gates.append("h")
        self.assertEqual(["g", "h"], error.gates)

    def test_exceptions_equal_only_themselves(self):
        for made, _, fields in each_class():
            one, other = made(*fields), made(*fields)
            self.assertEqual(one, one)
            self.assertNotEqual(one, other)


if __name__ == "__main__":
    unittest.main()
