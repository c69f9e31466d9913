"""Points, calls and ends: what a program lets as such, and where calls begin."""

from everyend.errors import BadCall, NoName
from everyend.names import is_integer_between, is_name
from everyend.values import is_value, is_value_below, value_text


def is_point(program, thing):
    """Whether this is a point of the program."""
    if not isinstance(thing, tuple) or len(thing) != 4:
        return False
    function, place, pairs, shared = thing
    if not is_function(program, function):
        return False
    end_place = len(program.sheet.spots[function]) - 1
    return (is_integer_between(0, end_place, place) and are_pairs(program, pairs)
            and are_shared(program, shared))


def is_function(program, thing):
    """Whether this is the name of a function of the program."""
    return is_name(thing) and thing in program.sheet.parameters


def are_pairs(program, thing):
    """Whether these are the locals of a point: pairs of names and values, ascending by the names."""
    if not isinstance(thing, tuple) or not all([is_pair(program, pair) for pair in thing]):
        return False
    names = [pair[0] for pair in thing]
    return names == sorted(set(names))


def is_pair(program, thing):
    """Whether this is a pair of a name and a value."""
    return (isinstance(thing, tuple) and len(thing) == 2
            and is_name(thing[0]) and is_value(program, thing[1]))


def are_shared(program, thing):
    """Whether these are values for the shared names."""
    if not isinstance(thing, tuple) or len(thing) != len(program.sheet.shared_names):
        return False
    return all([is_value_below(program.sheet, 2, value) for value in thing])


def is_call(program, thing):
    """Whether this is a call of a function of the program."""
    if not isinstance(thing, tuple) or len(thing) != 3:
        return False
    function, arguments, shared = thing
    return (is_function(program, function) and are_arguments(program, function, arguments)
            and are_shared(program, shared))


def are_arguments(program, function, thing):
    """Whether these are values for the parameters of a function."""
    if not isinstance(thing, tuple) or len(thing) != len(program.sheet.parameters[function]):
        return False
    return all([is_value(program, value) for value in thing])


def is_end(program, thing):
    """Whether this is an end of the program."""
    if not isinstance(thing, tuple) or len(thing) != 3:
        return False
    kind, worth, shared = thing
    if kind == "value":
        return is_value(program, worth) and are_shared(program, shared)
    return kind == "error" and is_name(worth) and are_shared(program, shared)


def end_order(end):
    """The key by which ends are ordered."""
    kind, worth, shared = end
    return (kind == "value", value_text(worth), tuple([value_text(value) for value in shared]))


def entry(program, call):
    """The point at which a call begins."""
    if not is_call(program, call):
        raise BadCall()
    return known_entry(program.sheet, call)


def known_entry(sheet, call):
    """The entry of what is known to be a call."""
    function, arguments, shared = call
    pairs = tuple(sorted(zip(sheet.parameters[function], arguments)))
    return (function, 0, pairs, shared)


def begin_call(program, function, arguments):
    """The call of a function by arguments, with the shared words that the program tells."""
    if not is_function(program, function):
        raise NoName(function)
    if not are_arguments(program, function, arguments):
        raise BadCall()
    return (function, arguments, program.sheet.first_words)
