"""Whether something is a block of a program.

What a block may name is told by a triple of dicts: the shared names, the
classes and the functions of the program.
"""

from everyend.names import is_integer_between, is_name, is_tuple_of_unlike_names
from everyend.shapes import BLOCKS, shape_of, statements_of

MOST_DEEP = 6
MOST_STATEMENTS = 12
MOST_EXPRESSIONS = 4
MOST_NOTS = 3
DEAREST = 9
# The kinds of values beside the classes, which are never called so.
KINDS = ("word", "row", "kept")


def is_block(known, deep, thing):
    """Whether this is a block, if it is the deep-th of the blocks that stand in each other."""
    if deep > MOST_DEEP or not isinstance(thing, tuple) or len(thing) > MOST_STATEMENTS:
        return False
    return all([is_statement(known, deep, statement) for statement in thing])


def is_statement(known, deep, thing):
    """Whether this is a statement of a block that is the deep-th one."""
    if not isinstance(thing, tuple) or not thing or not is_name(thing[0]):
        return False
    shape = shape_of(thing[0])
    if shape is None or len(thing) != len(shape) + 1:
        return False
    return all([is_part(known, deep, kind, part) for kind, part in zip(shape, thing[1:])])


def is_part(known, deep, kind, thing):
    """Whether this is a part of this kind of a statement."""
    if kind in BLOCKS:
        return is_block(known, deep + 1, thing) and (kind == "block" or not has_return(thing))
    check = CHECKS[kind]
    return check(known, thing)


def has_return(block):
    """Whether a return stands anywhere in a right block."""
    return any([statement[0] == "return" for statement in statements_of(block)])


def is_any_name(known, thing):
    """Whether this is a name, of whatever it may be."""
    return is_name(thing)


def is_shared_name(known, thing):
    """Whether this is a shared name of the program."""
    return is_name(thing) and thing in known[0]


def is_class_name(known, thing):
    """Whether this is the name of a class of the program."""
    return is_name(thing) and thing in known[1]


def is_function_name(known, thing):
    """Whether this is the name of a function of the program."""
    return is_name(thing) and thing in known[2]


def is_price(known, thing):
    """Whether this is what a pay may cost."""
    return is_integer_between(0, DEAREST, thing)


def are_words_to_ask(known, thing):
    """Whether these are words that an ask may let."""
    return is_tuple_of_unlike_names(3, thing) and len(thing) >= 2


def is_expression(known, thing):
    """Whether this is a name, or a tuple of one word."""
    if isinstance(thing, tuple):
        return len(thing) == 1 and is_name(thing[0])
    return is_name(thing)


def are_expressions(known, thing):
    """Whether this is a tuple of at most four expressions."""
    if not isinstance(thing, tuple) or len(thing) > MOST_EXPRESSIONS:
        return False
    return all([is_expression(known, part) for part in thing])


def is_test(known, thing):
    """Whether this is a test, at most three nots in it."""
    for _ in range(MOST_NOTS):
        if isinstance(thing, tuple) and len(thing) == 2 and thing[0] == "not":
            thing = thing[1]
    if not isinstance(thing, tuple) or len(thing) != 3:
        return False
    if thing[0] == "same":
        return is_expression(known, thing[1]) and is_expression(known, thing[2])
    return thing[0] == "kind" and is_expression(known, thing[1]) and is_kind(known, thing[2])


def is_kind(known, thing):
    """Whether a test may ask for this kind of values."""
    return thing in KINDS or is_class_name(known, thing)


CHECKS = {
    "name": is_any_name,
    "local": is_any_name,
    "shared": is_shared_name,
    "class": is_class_name,
    "function": is_function_name,
    "price": is_price,
    "words": are_words_to_ask,
    "expression": is_expression,
    "expressions": are_expressions,
    "test": is_test,
}
