"""Lines of texts of programs: the parts that their words tell.

A reader of a kind of parts is told a list of words. It returns a pair of the
part that the first of them tell and the list of those behind them; None if
they tell none.
"""

from everyend.blocks import MOST_NOTS
from everyend.names import are_names, is_name
from everyend.shapes import SHAPES, head_of

DIGITS = "0123456789"
# The kinds of the parts in lines that begin with no statement's word; those of tests.
HEADS = {
    "shared": ("name", "name"),
    "class": ("name", "digit", "parent", "words"),
    "method": ("name", "name"),
    "function": ("name", "digit", "words"),
    "else": (),
    "catch": ("local",),
    "after": (),
}
TESTS = {"same": ("expression", "expression"), "kind": ("expression", "name")}


def parts_in(words):
    """A list of the parts behind the first one of the words of a line, None if they have not the form that it needs."""
    word = words[0]
    if word not in HEADS and word not in SHAPES:
        return None
    kinds = HEADS[word] if word in HEADS else head_of(SHAPES[word])
    told = read_each(kinds, words[1:])
    if told is None:
        return None
    parts, rest = told
    return None if rest else parts


def read_each(kinds, words):
    """A list of parts of these kinds."""
    parts = []
    for kind in kinds:
        read = READERS[kind]
        told = read(words)
        if told is None:
            return None
        part, words = told
        parts.append(part)
    return parts, words


def read_name(words):
    """A name."""
    return (words[0], words[1:]) if words and is_name(words[0]) else None


def read_digit(words):
    """An integer of one digit."""
    if not words or len(words[0]) != 1 or words[0] not in DIGITS:
        return None
    return int(words[0]), words[1:]


def read_parent(words):
    """The name of a class, or - for None."""
    return (None, words[1:]) if words[:1] == ["-"] else read_name(words)


def read_names(words):
    """The tuple of all names that are left."""
    return (tuple(words), []) if are_names(words) else None


def read_expression(words):
    """An expression."""
    if not words or not words[0].startswith("'"):
        return read_name(words)
    word = words[0][1:]
    return ((word,), words[1:]) if is_name(word) else None


def read_expressions(words):
    """The tuple of all expressions that are left."""
    told = read_each(["expression" for _ in words], words)
    return None if told is None else (tuple(told[0]), [])


def read_test(words):
    """A test with as many nots as may be."""
    many = 0
    while words[many:many + 1] == ["not"]:
        many += 1
    if many > MOST_NOTS or many == len(words) or words[many] not in TESTS:
        return None
    told = read_each(TESTS[words[many]], words[many + 1:])
    if told is None:
        return None
    test = (words[many], *told[0])
    for _ in range(many):
        test = ("not", test)
    return test, told[1]


READERS = {
    "name": read_name,
    "local": read_name,
    "shared": read_name,
    "class": read_name,
    "function": read_name,
    "price": read_digit,
    "digit": read_digit,
    "parent": read_parent,
    "words": read_names,
    "expression": read_expression,
    "expressions": read_expressions,
    "test": read_test,
}
