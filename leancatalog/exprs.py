"""Expressions: their form, their types, and the refs and columns in them."""

from leancatalog.words import is_integer, is_name, is_ref, is_tuple

LARGEST = 10 ** 18
LONGEST_TEXT = 20
MOST_PARAMS = 4
MOST_EXPRESSIONS = 30
DEEPEST = 8

# The types of what stands in each of these, and its own.
OPERATORS = {
    "add": (("int", "int"), "int"),
    "join": (("text", "text"), "text"),
    "less": (("int", "int"), "truth"),
    "equal": (("int", "int"), "truth"),
    "alike": (("text", "text"), "truth"),
    "and": (("truth", "truth"), "truth"),
    "not": (("truth",), "truth"),
}

# Where the expressions stand that do not stand everywhere.
PLACES = {
    "column": ("rule", "check", "index", "trigger"),
    "value": ("domain",),
    "param": ("body",),
    "next": ("default",),
}


def is_constant(thing):
    """Whether thing, any value, is an integer or a text as an expression."""
    if not is_tuple(thing, 2, 2) or not isinstance(thing[0], str):
        return False
    word, part = thing
    if word == "int":
        return is_integer(part) and -LARGEST <= part <= LARGEST
    return word == "text" and isinstance(part, str) and len(part) <= LONGEST_TEXT


def is_leaf(thing):
    """Whether a tuple that begins with a string is an expression in which no other one stands."""
    if thing[0] == "value":
        return len(thing) == 1
    if len(thing) != 2:
        return False
    word, part = thing
    if word == "column":
        return is_name(part)
    if word == "param":
        return is_integer(part) and 0 <= part < MOST_PARAMS
    if word == "next":
        return is_ref(part)
    return is_constant(thing)


def has_form(thing, place):
    """Whether thing is an expression that may stand at a place, if what stands in it are expressions."""
    if not isinstance(thing, tuple) or not thing or not isinstance(thing[0], str):
        return False
    word = thing[0]
    if word in PLACES and place not in PLACES[word]:
        return False
    if word in OPERATORS:
        return len(thing) == 1 + len(OPERATORS[word][0])
    if word == "call":
        return len(thing) == 3 and is_ref(thing[1]) and is_tuple(thing[2], 0, MOST_PARAMS)
    return is_leaf(thing)


def parts_of(expression):
    """The tuple of the expressions that stand directly in an expression, from left to right."""
    if expression[0] == "call":
        return expression[2]
    if expression[0] in OPERATORS:
        return expression[1:]
    return ()


def is_expression(thing, place):
    """Whether thing, any value, is an expression that may stand at a place, whatever its types."""
    # Stopping at the first part too many keeps this short, however much stands in thing.
    waiting = [(thing, 1)]
    many = 0
    while waiting:
        part, depth = waiting.pop()
        many += 1
        if many > MOST_EXPRESSIONS or depth > DEEPEST or not has_form(part, place):
            return False
        waiting.extend([(inner, depth + 1) for inner in parts_of(part)])
    return True


def signature_of(expression, columns, value, params, functions):
    """The types that an expression wants of the expressions in it, and its own, None if it does not fit."""
    word = expression[0]
    if word in OPERATORS:
        return OPERATORS[word]
    if word == "call":
        return functions.get(expression[1], ((), None))
    if word == "column":
        return ((), columns.get(expression[1]))
    if word == "param":
        return ((), params[expression[1]] if expression[1] in range(len(params)) else None)
    if word == "value":
        return ((), value)
    return ((), "text" if word == "text" else "int")


def type_of(expression, *, columns=None, value=None, params=(), functions=None):
    """The type of an expression, or None if it does not fit."""
    columns = {} if columns is None else columns
    functions = {} if functions is None else functions
    wanted, result = signature_of(expression, columns, value, params, functions)
    found = [
        type_of(part, columns=columns, value=value, params=params, functions=functions)
        for part in parts_of(expression)
    ]
    return result if tuple(found) == wanted else None


def all_in(expression):
    """The expressions in an expression, itself included, each ahead of those in it, from left to right."""
    found = [expression]
    for part in parts_of(expression):
        found.extend(all_in(part))
    return found


def columns_in(expression):
    """The names of the columns in an expression, each once, from left to right."""
    return list({part[1]: True for part in all_in(expression) if part[0] == "column"})


def ref_in(expression):
    """The space and the ref that an expression tells itself, or None."""
    if expression[0] == "call":
        return ("function", expression[1])
    if expression[0] == "next":
        return ("sequence", expression[1])
    return None


def refs_in(expression):
    """The spaces and refs of the calls and nexts in an expression, each once, from left to right."""
    refs = [ref_in(part) for part in all_in(expression)]
    return list({ref: True for ref in refs if ref is not None})


def with_refs_in(expression, found):
    """The expression with the refs that found has for those of refs_in; the others stay."""
    word = expression[0]
    if word == "next":
        return (word, found.get(ref_in(expression), expression[1]))
    parts = tuple([with_refs_in(part, found) for part in parts_of(expression)])
    if word == "call":
        return (word, found.get(ref_in(expression), expression[1]), parts)
    if word in OPERATORS:
        return (word,) + parts
    return expression


def with_columns_in(expression, found):
    """The expression with the names that found, a dict, has for its columns; the others stay."""
    word = expression[0]
    if word == "column":
        return (word, found.get(expression[1], expression[1]))
    parts = tuple([with_columns_in(part, found) for part in parts_of(expression)])
    if word == "call":
        return expression[:2] + (parts,)
    return (word,) + parts if word in OPERATORS else expression
