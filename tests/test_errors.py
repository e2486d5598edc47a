"""[20] errors, and [8] on how an error is made and what it keeps."""

import inspect
import unittest

from leancatalog import errors
from tests.stub import all_sorts

FIELDS = {
    "Wrong": ["place"],
    "NoName": ["space", "name"],
    "NoItem": ["address"],
    "Taken": ["address"],
    "Needs": ["address", "other"],
    "Misfit": ["address"],
    "Hangs": ["address", "other"],
    "TooMany": ["limit"],
    "Stopped": ["at"],
    "Ring": ["functions"],
    "NoRole": ["role"],
    "NoRight": ["role"],
    "NoGrant": ["giver", "taker"],
    "Hung": ["grant"],
    "Nothing": [],
    "NoStatement": [],
    "NoText": [],
}


class Classes(unittest.TestCase):
    def test_catalog_error_is_a_value_error(self):
        self.assertEqual(errors.CatalogError.__bases__, (ValueError,))

    def test_seventeen_direct_subclasses_and_no_others(self):
        self.assertEqual(len(FIELDS), 17)
        for name in FIELDS:
            self.assertEqual(getattr(errors, name).__bases__, (errors.CatalogError,))
        found = [name for name, thing in vars(errors).items() if inspect.isclass(thing)]
        self.assertEqual(sorted(found), sorted(list(FIELDS) + ["CatalogError"]))

    def test_a_catalog_error_is_made_from_a_string(self):
        self.assertEqual(str(errors.CatalogError("it broke")), "it broke")
        self.assertEqual(str(errors.CatalogError("")), "")

    def test_each_is_caught_as_a_catalog_error_and_as_no_other_one(self):
        for name in FIELDS:
            made = getattr(errors, name)(*FIELDS[name])
            with self.assertRaises(errors.CatalogError):
                raise made
            others = [other for other in FIELDS if isinstance(made, getattr(errors, other))]
            self.assertEqual(others, [name])


class Fields(unittest.TestCase):
    def test_signatures(self):
        for name in FIELDS:
            signature = inspect.signature(getattr(errors, name))
            self.assertEqual(list(signature.parameters), FIELDS[name])

    def test_another_number_of_arguments_is_refused(self):
        for name in FIELDS:
            for many in [many for many in range(4) if many != len(FIELDS[name])]:
                with self.assertRaises(TypeError):
                    getattr(errors, name)(*range(many))

    def test_fields_are_the_very_objects(self):
        for name in FIELDS:
            passed = [[at] for at in range(len(FIELDS[name]))]
            made = getattr(errors, name)(*passed)
            self.assertEqual(sorted(vars(made)), sorted(FIELDS[name]))
            for field, thing in zip(FIELDS[name], passed):
                self.assertIs(getattr(made, field), thing)

    def test_a_list_changed_later_is_changed_there(self):
        functions = [("function", "app", "f")]
        made = errors.Ring(functions)
        functions.append(("function", "app", "g"))
        self.assertEqual(made.functions, [("function", "app", "f"), ("function", "app", "g")])

    def test_any_values(self):
        things = all_sorts() + [10 ** 5000, -(10 ** 5000), ("a", 10 ** 5000)]
        for name in FIELDS:
            for thing in things:
                made = getattr(errors, name)(*[thing for _ in FIELDS[name]])
                for field in FIELDS[name]:
                    self.assertIs(getattr(made, field), thing)

    def test_two_of_a_class_keep_their_own(self):
        first, second = errors.Hangs(1, 2), errors.Hangs(3, 4)
        self.assertEqual([first.address, first.other, second.address, second.other], [1, 2, 3, 4])
