"""[105], [106] notation, with [8] on "any value", [60]."""

import itertools
import random
import unittest

from leancatalog.catalogs import Catalog
from leancatalog.changes import run
from leancatalog.errors import NoText, Stopped
from leancatalog.notation import read_script, read_statement, read_value, show, show_script, show_statement
from leancatalog.statements import is_statement
from tests.build import SHOP
from tests.drawn import Drawing
from tests.stub import Odd, all_sorts

VALUES = {
    "-": None, "0": 0, "7": 7, "-7": -7, "10": 10, "-10": -10, "9" * 40: int("9" * 40), "-" + "9" * 40: -int("9" * 40),
    "a": "a", "abcdefgh": "abcdefgh", '"abcdefghi"': "abcdefghi", '""': "", '" "': " ", '"A"': "A", '"a1"': "a1", '"a b"': "a b",
    '"-"': "-", '"0"': "0", '"-7"': "-7", '"[]"': "[]", '"["': "[", '"]"': "]", '"\\\\"': "\\", '"\\""': '"', '"\\n"': "\n",
    '"\\\\n"': "\\n", '"a\\\\\\"b\\nc"': 'a\\"b\nc', '"~!@#^&*()"': "~!@#^&*()", "[]": (), "[[]]": ((),), "[- 1 a]": (None, 1, "a"),
    "[[] []]": ((), ()), '["a b" [1 [-]]]': ("a b", (1, (None,))), "[-1 -]": (-1, None), '["]" a]': ("]", "a"), '["" ""]': ("", ""),
}

# What is no text: each of them is nearly one.
NO_TEXTS = [
    "", " ", "\n", " a", "a ", " 1", "1 ", "a\n", "\na", "a b", "- -", "[", "]", "[[]", "[]]", "[] ", " []", "[ ]", "[ a]", "[a ]", "[a  b]",
    "[a\nb]", "[a,b]", "[a b", "a b]", "[a][b]", "[a]b", "a[b]", "[a[b]]", "[[a]b]", "[[a] b]]", "--", "--1", "-0", "00", "01", "-01", "+1", "1.5",
    "1e5", "0x1", "1_0", "1a", "a1", "A", "aB", "abcdefghi", "a-b", "-a", "None", "True", "1" * 41, "-" + "1" * 41, "0" * 40, '"', '"a', 'a"', '"a"',
    '"abcdefgh"', '"ab', '"\\"', '"\\', '"\\a"', '"\\t"', '"\\N"', '"a\nb"', '""" "', '"a" "b"', '" "a', '" "" "', "'a b'", "'a'", '[""""]', '["a"]',
    '[" ""A"]', '[" "a]', '[a" "]', '"\\\\\\"', "()", "{}", "a]", "]a", "[]a", "[]1", "[]-", "-[]", "1[]", "[-]-", "\\", "\\n", "[\\n]", "- ", " -", "-]",
]


def nested(depth):
    return "[" * depth + "]" * depth


def drawn_value(drawn, depth):
    sort = drawn.randrange(6 if depth else 5)
    if sort == 0:
        return None
    if sort == 1:
        return drawn.choice([0, 1, -1, drawn.randrange(-10 ** 40 + 1, 10 ** 40)])
    if sort == 2:
        return "".join(drawn.choice("abcz") for _ in range(drawn.randrange(1, 9)))
    if sort in (3, 4):
        return "".join(drawn.choice('ab "\\\nn[]-0A~') for _ in range(drawn.randrange(12)))
    return tuple(drawn_value(drawn, depth - 1) for _ in range(drawn.randrange(4)))


class Values(unittest.TestCase):
    def test_there_and_back(self):
        for text, value in VALUES.items():
            self.assertEqual(show(value), text)
            told = read_value(text)
            self.assertEqual((told, type(told)), (value, type(value)))

    def test_drawn_values_there_and_back(self):
        drawn = random.Random(5)
        texts = {}
        for _ in range(3000):
            value = drawn_value(drawn, 4)
            text = show(value)
            self.assertEqual(read_value(text), value)
            self.assertEqual(texts.setdefault(text, value), value)
            for other in [text + " ", " " + text, text + " " + text, text + "]", "[" + text]:
                self.no_text(read_value, other)

    def no_text(self, read, thing):
        with self.assertRaises(NoText) as caught:
            read(thing)
        self.assertEqual(vars(caught.exception), {})

    def test_what_is_no_text(self):
        for text in NO_TEXTS:
            self.no_text(read_value, text)

    def test_all_short_texts(self):
        """Each text of up to five signs is either that of the one value that it writes, or none."""
        many = 0
        for length in range(6):
            for signs in itertools.product('a-01[] "\\' if length < 5 else 'a1[] "', repeat=length):
                text = "".join(signs)
                try:
                    value = read_value(text)
                except NoText:
                    continue
                self.assertEqual(show(value), text)
                many += 1
        self.assertGreater(many, 200)

    def test_signs_put_in_and_out_and_otherwise(self):
        drawn = random.Random(7)
        for _ in range(600):
            text = show(drawn_value(drawn, 3))
            for at in range(len(text) + 1):
                sign = drawn.choice('ab 01-[]"\\\n~')
                for other in [text[:at] + sign + text[at:], text[:at] + text[at + 1:], text[:at] + sign + text[at + 1:]]:
                    try:
                        value = read_value(other)
                    except NoText:
                        continue
                    self.assertEqual(show(value), other)

    def test_values_that_are_no_texts(self):
        for thing in all_sorts() + [Odd(), b"a", 5, ["a"], ("a",)]:
            if not isinstance(thing, str):
                for read in (read_value, read_statement, read_script):
                    self.no_text(read, thing)

    def test_forty_tuples_within_one_another_and_forty_one(self):
        value = ()
        for _ in range(39):
            value = (value,)
        self.assertEqual(show(value), nested(40))
        self.assertEqual(read_value(nested(40)), value)
        self.no_text(read_value, nested(41))
        self.assertEqual(show((value,)), nested(41))
        deep = "[" * 39 + "[a] [b] []" + "]" * 39
        self.assertEqual(show(read_value(deep)), deep)
        self.no_text(read_value, "[" * 39 + "[a] [[]] []" + "]" * 39)

    def test_forty_digits_and_forty_one(self):
        for sign in ["", "-"]:
            self.assertEqual(read_value(sign + "1" + "0" * 39), int(sign + "1" + "0" * 39))
            self.no_text(read_value, sign + "1" + "0" * 40)
            self.no_text(read_value, "[" + sign + "1" + "0" * 40 + "]")

    def test_thousands_of_brackets_and_digits(self):
        for text in ["[" * 15000, "]" * 15000, nested(7000), "1" * 15000, "-" + "1" * 15000, "0" * 15000, "-" * 15000, "[" + "9" * 9999 + "]",
                     '"' * 15001, "\\" * 15000, '"' + "\\" * 15001 + '"', " " * 15000, "a" * 15000, "[] " * 5000, "[a" * 5000]:
            for read in (read_value, read_statement):
                self.no_text(read, text)
            with self.assertRaises(Stopped) as caught:
                read_script(text)
            self.assertEqual(caught.exception.at, 0)
        wide = "[" + " ".join(["[]"] * 5000) + "]"
        self.assertEqual(read_value(wide), ((),) * 5000)
        self.assertEqual(show(((),) * 5000), wide)
        long = '"' + "\\\\" * 10000 + '"'
        self.assertEqual(read_value(long), "\\" * 10000)


class Statements(unittest.TestCase):
    def no_text(self, thing):
        with self.assertRaises(NoText):
            read_statement(thing)

    def statements(self):
        """Statements of all words and kinds."""
        found = list(SHOP)
        for seed in range(40):
            drawing = Drawing(seed)
            catalog = drawing.catalog(20)
            found += [statement for statement in [drawing.change(catalog) for _ in range(5)] if statement is not None]
        return found

    def test_there_and_back(self):
        words = set()
        for statement in self.statements():
            text = show_statement(statement)
            self.assertEqual("[" + text + "]", show(statement))
            self.assertEqual(read_statement(text), statement)
            words.add(statement[0])
        self.assertEqual(words, {"create", "drop", "replace", "rename", "move", "path"})

    def test_some(self):
        for text, statement in {
            "create column [orders net] [int -]": ("create", "column", ("orders", "net"), ("int", None)),
            "create schema app []": ("create", "schema", "app", ()), "path []": ("path", ()), "path [app old]": ("path", ("app", "old")),
            "drop table [app t] alone": ("drop", "table", ("app", "t"), "alone"), "rename table t u": ("rename", "table", "t", "u"),
            'create default [t c] [[text "a b"]]': ("create", "default", ("t", "c"), (("text", "a b"),)),
            "create default [t c] [[text ab]]": ("create", "default", ("t", "c"), (("text", "ab"),)),
            "create default [t c] [[int -5]]": ("create", "default", ("t", "c"), (("int", -5),)),
            'create default [t c] [[text "\\n"]]': ("create", "default", ("t", "c"), (("text", "\n"),)),
        }.items():
            self.assertEqual(show_statement(statement), text)
            self.assertEqual(read_statement(text), statement)

    def test_values_that_are_no_statements(self):
        for text in ["", "-", "a", "[]", "path", "path -", "path [1]", "path [a] []", "[path []]", "create schema app", "create schema app [] []",
                     "create schema App []", "drop table t", "drop table t never", "rename default [t c] d", "1", '"path" []', "path [a b c d e f g h i]",
                     "create default [t c] [[int a]]", "create default [t c] [[int 1000000000000000001]]"]:
            self.no_text(text)

    def test_texts_that_are_none(self):
        for statement in SHOP:
            text = show_statement(statement)
            for other in [" " + text, text + " ", text + "\n", "\n" + text, "[" + text + "]", text + "]", "[" + text, text.replace(" ", "  ", 1),
                          text[:-1], text + " []", text.replace("[", "[ ", 1), text.replace("]", " ]", 1), text + "] [" + text, text.upper()]:
                self.no_text(other)

    def test_brackets_that_close_too_early(self):
        for text in ["path []] [", "] path [] [", "path []] [[]", "path [] ] [ []", "path []][[]"]:
            self.no_text(text)


class Scripts(unittest.TestCase):
    def stopped(self, text, at):
        with self.assertRaises(Stopped) as caught:
            read_script(text)
        self.assertEqual(vars(caught.exception), {"at": at})

    def test_there_and_back(self):
        text = show_script(SHOP)
        self.assertEqual(text, "".join(show_statement(statement) + "\n" for statement in SHOP))
        self.assertEqual(read_script(text), SHOP)
        self.assertEqual(run(Catalog(), read_script(text)), run(Catalog(), SHOP))

    def test_no_statements(self):
        self.assertEqual(show_script([]), "")
        self.assertEqual(read_script(""), [])

    def test_without_its_end(self):
        text = show_script(SHOP)
        self.stopped(text[:-1], len(SHOP) - 1)
        self.stopped("path []", 0)
        self.stopped("path []\npath []", 1)

    def test_empty_lines(self):
        self.stopped("\n", 0)
        self.stopped("\n\n", 0)
        self.stopped("\npath []\n", 0)
        self.stopped("path []\n\n", 1)
        self.stopped("path []\n\npath []\n", 1)

    def test_something_behind_the_end(self):
        self.stopped("path []\n ", 1)
        self.stopped("path []\npath [a]\nx", 2)
        self.stopped("path []\npath [a]\n-", 2)
        self.stopped(" ", 0)

    def test_the_first_line_that_is_none(self):
        lines = [show_statement(statement) for statement in SHOP]
        for at in range(len(lines)):
            for wrong in ["", " ", "a", lines[at] + " ", " " + lines[at], lines[at] + "\r", "path", "[" + lines[at] + "]"]:
                self.stopped("\n".join(lines[:at] + [wrong] + lines[at + 1:]) + "\n", at)
                self.stopped("\n".join(lines[:at] + [wrong] + ["z"] * 5), at)

    def test_line_feeds_in_strings(self):
        script = [("create", "default", ("t", "c"), (("text", "\n"),)), ("path", ())]
        self.assertEqual(show_script(script).count("\n"), 2)
        self.assertEqual(read_script(show_script(script)), script)
        self.stopped('create default [t c] [[text "\n"]]\n', 0)

    def test_statements_that_are_read_have_the_form(self):
        self.assertTrue(all(is_statement(statement) for statement in read_script(show_script(SHOP))))
        self.stopped("path []\ndrop table t never\n", 1)

    def test_what_is_returned_is_the_callers(self):
        text = show_script(SHOP)
        read_script(text).clear()
        self.assertEqual(read_script(text), SHOP)
        statements = list(SHOP)
        show_script(statements)
        self.assertEqual(statements, SHOP)


class ExampleOfTheDocument(unittest.TestCase):
    def test_it(self):
        self.assertEqual([show_statement(("create", "column", ("orders", "net"), ("int", None))), read_value("[1 [] \"a b\"]")],
                         ["create column [orders net] [int -]", (1, (), "a b")])
