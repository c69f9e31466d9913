"""Programs rewritten so that what their calls come to can be told."""

from everyend.edits import uses, with_function
from everyend.errors import BadName, BadNames, BadWords, NoName
from everyend.names import is_dict_of_names, is_tuple_of_names
from everyend.points import is_function
from everyend.programs import Program
from everyend.renames import local_names, renamed_function

CAUGHT = "z"


def renamed(program, function, names):
    """The program with other names for locals of a function."""
    if not is_function(program, function):
        raise NoName(function)
    told = program.functions[function]
    if not is_renaming(names) or clashes(program.shared, local_names(told), names):
        raise BadNames()
    return with_function(program, function, renamed_function(names, told))


def is_renaming(thing):
    """Whether this is a dict from names to unlike names."""
    return is_dict_of_names(thing) and len(set(list(thing.values()))) == len(thing)


def clashes(shared, standing, names):
    """Whether a renaming takes a name that means something else, where these names of locals stand."""
    if any([name in shared for name in names]):
        return True
    others = [name for name in names.values() if name not in names]
    return any([name in shared or name in standing for name in others])


def fixed(program, function, words, name):
    """The program with a further function, that has these words for the first parameters of a function."""
    if not is_function(program, function):
        raise NoName(function)
    parameters, rank, block = program.functions[function]
    if not is_tuple_of_names(len(parameters), words):
        raise BadWords()
    begin = tuple([("set", parameter, (word,)) for parameter, word in zip(parameters, words)])
    return with_further(program, name, (parameters[len(words):], rank, begin + block))


def caught(program, function, name):
    """The program with a further function, that returns a row of the word of each error of a function."""
    if not is_function(program, function):
        raise NoName(function)
    parameters, rank, _ = program.functions[function]
    local = CAUGHT
    while local in parameters or local in program.shared:
        local = local + CAUGHT
    first = (("call", local, function, parameters), ("return", local))
    second = (("push", local, ("none",), local), ("return", local))
    # If all right names were taken, this one is too long: the program then tells of a wrong block.
    return with_further(program, name, (parameters, rank, (("try", first, local, second),)))


def with_further(program, name, function):
    """The program with a function under a name that none has yet; what is no name is told of where it is put in."""
    if is_function(program, name):
        raise BadName()
    return with_function(program, name, function)


def only(program, function):
    """The program with just the function and what it uses."""
    functions, classes, shared = uses(program, function)
    return Program(those_of(program.shared, shared), those_of(program.classes, classes),
                   those_of(program.functions, (function, *functions)))


def those_of(told, names):
    """The part of a dict that has just these names."""
    return {name: told[name] for name in names}
