"""[21] words, with [2] on integers, names, refs and addresses, and [8] on any value."""

import unittest

from leancatalog.words import KINDS, is_address, is_integer, is_name, is_ref, namesakes, parent_of, rank, space_of
from tests.stub import Odd, all_sorts

SCHEMA = ("schema", "app")
IN_SCHEMA = ["domain", "sequence", "table", "view", "function", "index"]
IN_TABLE = ["column", "default", "check", "trigger"]

NO_NAMES = [
    "", "abcdefghi", "a" * 20000, "Net", "nEt", "net1", "1", "ne t", " net", "net ", "net\n", "\n", "\nnet", "net_",
    "n-t", "n.t", "n\tt", "\u00e9", "\u00df", "\u0131", "\u03b1", "\u0661", "\uff41", "n\u00e9t", b"net", ("net",),
    ["net"], None, True, False, 0, 1,
]


def addresses():
    return [SCHEMA] + [(kind, "app", "net") for kind in IN_SCHEMA] + [(kind, "app", "bills", "net") for kind in IN_TABLE]


class Integers(unittest.TestCase):
    def test_integers_of_any_size(self):
        for thing in [0, 1, -1, 2, 10 ** 39, 10 ** 40, -(10 ** 41), 10 ** 5000, -(10 ** 5000)]:
            self.assertIs(is_integer(thing), True)

    def test_true_and_false_are_none(self):
        self.assertIs(is_integer(True), False)
        self.assertIs(is_integer(False), False)

    def test_other_sorts_are_none(self):
        for thing in all_sorts() + ["1", b"1", (1,), [1], {1: 1}, {1}]:
            self.assertIs(is_integer(thing), False)


class Names(unittest.TestCase):
    def test_one_to_eight_lowercase_letters(self):
        for thing in ["a", "z", "net", "abcdefg", "abcdefgh", "zzzzzzzz", "qrstuvwx", "ijklmnop", "y"]:
            self.assertIs(is_name(thing), True)

    def test_others_are_none(self):
        for thing in NO_NAMES + all_sorts():
            self.assertIs(is_name(thing), False)


class Refs(unittest.TestCase):
    def test_names_and_tuples_of_two(self):
        for thing in ["net", "a", "abcdefgh", ("app", "net"), ("a", "a"), ("abcdefgh", "abcdefgh")]:
            self.assertIs(is_ref(thing), True)

    def test_a_list_one_name_and_three_names(self):
        for thing in [["app", "net"], (), ("app",), ("app", "net", "n"), [], ["net"], {"app": "net"}]:
            self.assertIs(is_ref(thing), False)

    def test_parts_that_are_no_names(self):
        for thing in NO_NAMES:
            self.assertIs(is_ref(("app", thing)), False)
            self.assertIs(is_ref((thing, "net")), False)
        self.assertIs(is_ref(("app", ("app", "net"))), False)

    def test_other_sorts(self):
        for thing in all_sorts():
            self.assertIs(is_ref(thing), False)


class Addresses(unittest.TestCase):
    def test_each_kind(self):
        for address in addresses():
            self.assertIs(is_address(address), True)

    def test_a_name_too_few_or_too_many(self):
        for address in addresses():
            self.assertIs(is_address(address[:-1]), False)
            self.assertIs(is_address(address + ("net",)), False)
            self.assertIs(is_address(address[:1]), False)

    def test_another_word_for_the_kind(self):
        for address in addresses():
            for word in ["", "tables", "Table", "role", "table ", "relation", None, 3, True, (), [], {}, ("table",)]:
                self.assertIs(is_address((word,) + address[1:]), False)

    def test_parts_that_are_no_names(self):
        for address in addresses():
            for at in range(1, len(address)):
                for thing in NO_NAMES + [address, [], {}]:
                    self.assertIs(is_address(address[:at] + (thing,) + address[at + 1:]), False)

    def test_lists_and_an_empty_tuple(self):
        for address in addresses():
            self.assertIs(is_address(list(address)), False)
        self.assertIs(is_address(()), False)

    def test_other_sorts(self):
        for thing in all_sorts() + ["schema", "table", SCHEMA * 2, (SCHEMA,)]:
            self.assertIs(is_address(thing), False)


class Any(unittest.TestCase):
    def test_a_value_that_is_equal_to_everything(self):
        for asked in [is_integer, is_name, is_ref, is_address]:
            for thing in [Odd(), (Odd(), Odd()), (Odd(), "app"), ("table", Odd(), "net"), [Odd()]]:
                self.assertIs(asked(thing), False)

    def test_what_is_asked_about_stays(self):
        thing = ["table", ["app"], {"net": ["a"]}]
        for asked in [is_integer, is_name, is_ref, is_address]:
            asked(thing)
            self.assertEqual(thing, ["table", ["app"], {"net": ["a"]}])


class Places(unittest.TestCase):
    def test_kinds_in_their_order(self):
        told = "schema, domain, sequence, table, view, function, index, column, default, check, trigger"
        self.assertEqual(KINDS, tuple(told.split(", ")))

    def test_spaces(self):
        self.assertEqual(space_of(SCHEMA), ("schema",))
        for kind in ["table", "view", "sequence", "index"]:
            self.assertEqual(space_of((kind, "app", "net")), ("relation", "app"))
        self.assertEqual(space_of(("domain", "app", "net")), ("domain", "app"))
        self.assertEqual(space_of(("function", "app", "net")), ("function", "app"))
        for kind in IN_TABLE:
            self.assertEqual(space_of((kind, "app", "bills", "net")), (kind, "app", "bills"))

    def test_parents(self):
        self.assertIsNone(parent_of(SCHEMA))
        for kind in IN_SCHEMA:
            self.assertEqual(parent_of((kind, "app", "net")), SCHEMA)
        for kind in ["column", "check", "trigger"]:
            self.assertEqual(parent_of((kind, "app", "bills", "net")), ("table", "app", "bills"))
        self.assertEqual(parent_of(("default", "app", "bills", "net")), ("column", "app", "bills", "net"))

    def test_spaces_and_parents_of_names_that_are_kinds(self):
        self.assertEqual(space_of(("table", "schema", "view")), ("relation", "schema"))
        self.assertEqual(parent_of(("default", "default", "schema", "table")), ("column", "default", "schema", "table"))


class Helpers(unittest.TestCase):
    def test_addresses_of_one_name_in_one_space(self):
        for kind in KINDS:
            address = (kind,) + ("app", "bills", "net")[:1 if kind == "schema" else 2 if kind in IN_SCHEMA else 3]
            kinds = ["index", "sequence", "table", "view"] if space_of(address)[0] == "relation" else [kind]
            self.assertEqual(namesakes(address), [(one,) + address[1:] for one in kinds])
            self.assertEqual({space_of(one) for one in namesakes(address)}, {space_of(address)})

    def test_none_ahead_of_integers_ahead_of_strings_ahead_of_tuples(self):
        ascending = [
            None, -2, 0, 10, "", "a", "ab", "b", (), (None,), (None, None), (3,), ("a",), ("a", None), ("a", "b"),
            ("a", ()), ("b", None), ((),), (("a",), None), (("a",), "a"), (("b",), None),
        ]
        self.assertEqual(sorted(ascending[::-1], key=rank), ascending)
        self.assertEqual(sorted(ascending[1::2] + ascending[::2], key=rank), ascending)
