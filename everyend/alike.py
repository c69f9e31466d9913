"""Whether the calls of two functions have the same ends at the same prices."""

from everyend.errors import BadShared, NoName
from everyend.points import begin_call, is_function
from everyend.prices import entry_row


def parting(one, first, other, second, rows):
    """The first of these tuples of arguments by which the calls of two functions, each of its program, are not alike;
    None if they are for all of them."""
    if one.sheet.shared_names != other.sheet.shared_names:
        raise BadShared()
    if not is_function(one, first):
        raise NoName(first)
    if not is_function(other, second):
        raise NoName(second)
    for arguments in rows:
        row = entry_row(one, begin_call(one, first, arguments))
        if row != entry_row(other, begin_call(other, second, arguments)):
            return arguments
    return None
