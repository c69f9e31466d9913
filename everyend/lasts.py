"""Statements last written out as statements try."""

from everyend.shapes import BLOCKS, parts_of, statements_of

SECOND_LETTERS = "abcdefghijklmnopqrstuvwxyz"


def plain_functions(functions):
    """The functions without statements last, None if the names do not suffice for one of them."""
    plain = {}
    for name, (parameters, rank, block) in functions.items():
        free = free_names((parameters, block))
        if count_lasts(block) > len(free):
            return None
        plain[name] = (parameters, rank, without_lasts(block, free))
    return plain


def count_lasts(block):
    """How many statements last stand in a block, those in its inner blocks too."""
    return len([statement for statement in statements_of(block) if statement[0] == "last"])


def free_names(thing):
    """Those of the names za to zz that do not stand in this, in their order."""
    # No first word of a statement or a test is such a name, so all strings may be taken together.
    standing = strings_in(thing)
    names = ["z" + letter for letter in SECOND_LETTERS]
    return [name for name in names if name not in standing]


def strings_in(thing):
    """All strings in a string, an integer or a tuple of such."""
    if isinstance(thing, str):
        return [thing]
    found = []
    if isinstance(thing, tuple):
        for part in thing:
            found.extend(strings_in(part))
    return found


def without_lasts(block, free):
    """The block without lasts; each of them takes its name off the begin of the list free."""
    plain = []
    for statement in block:
        plain.extend(plain_statements(statement, free))
    return tuple(plain)


def plain_statements(statement, free):
    """What stands for a statement in a block without lasts, as a tuple of statements."""
    if statement[0] == "last":
        name = free.pop(0)
        first = without_lasts(statement[1], free)
        second = without_lasts(statement[2], free)
        return (("try", first, name, second + (("raise", name),)),) + second
    parts = [statement[0]]
    for kind, part in parts_of(statement):
        parts.append(without_lasts(part, free) if kind in BLOCKS else part)
    return (tuple(parts),)
