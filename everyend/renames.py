"""The names of locals that stand in a function, and other names for them."""

from everyend.shapes import BLOCKS, expressions_of, parts_of, statements_of


def local_names(function):
    """The names of a function, told as in a program, that are those of locals: parameters, what statements set, and
    expressions (of these some may be shared names alone)."""
    parameters, _, block = function
    names = list(parameters)
    for statement in statements_of(block):
        names.extend([part for kind, part in parts_of(statement) if kind == "local"])
        names.extend([part for part in expressions_of(statement) if isinstance(part, str)])
    return names


def renamed_function(names, function):
    """A function with other names for those locals that are keys of names."""
    parameters, rank, block = function
    return tuple([names.get(name, name) for name in parameters]), rank, renamed_block(names, block)


def renamed_block(names, block):
    """A block likewise."""
    return tuple([renamed_statement(names, statement) for statement in block])


def renamed_statement(names, statement):
    """A statement likewise."""
    parts = [renamed_part(names, kind, part) for kind, part in parts_of(statement)]
    return (statement[0], *parts)


def renamed_part(names, kind, part):
    """A part of a statement likewise."""
    if kind in BLOCKS:
        return renamed_block(names, part)
    if kind == "test":
        return renamed_test(names, part)
    if kind == "expressions":
        return tuple([names.get(expression, expression) for expression in part])
    # An expression that is a word is a tuple: so it is no key.
    return names.get(part, part) if kind in ("local", "expression") else part


def renamed_test(names, test):
    """A test likewise."""
    if test[0] == "not":
        return ("not", renamed_test(names, test[1]))
    word, first, second = test
    return (word, names.get(first, first), names.get(second, second) if word == "same" else second)
