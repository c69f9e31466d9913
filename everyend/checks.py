"""Whether three dicts are those of a program."""

from everyend.blocks import KINDS, is_block
from everyend.families import all_fields, goes_in_a_ring
from everyend.names import are_names, is_dict_of_names, is_integer_between, is_name
from everyend.names import is_tuple_of_unlike_names

MOST_SHARED = 4
MOST_CLASSES = 6
MOST_FUNCTIONS = 12
MOST_PARAMETERS = 4
MOST_OWN_FIELDS = 3
MOST_FIELDS = 4


def first_wrong_part(shared, classes, functions):
    """The part to tell of a wrong program, None of a right one; the lasts aside."""
    if not is_dict_of_names(shared) or len(shared) > MOST_SHARED:
        return "shared"
    if not are_classes(classes):
        return "classes"
    if not are_functions(functions):
        return "functions"
    if not are_methods_of(classes, functions):
        return "methods"
    known = (shared, classes, functions)
    for name in sorted(functions):
        if not is_block(known, 1, functions[name][2]):
            return f"block {name}"
    return None


def are_classes(thing):
    """Whether these are the classes of a program, if its functions are left aside."""
    if not isinstance(thing, dict) or len(thing) > MOST_CLASSES or not are_names(thing):
        return False
    if any([name in KINDS for name in thing]):
        return False
    if not all([is_class(thing, told) for told in thing.values()]):
        return False
    return all([has_right_family(thing, name) for name in thing])


def is_class(classes, thing):
    """Whether this is what a class is told by, its family aside."""
    if not isinstance(thing, tuple) or len(thing) != 4:
        return False
    parent, rank, fields, methods = thing
    if parent is not None and not (is_name(parent) and parent in classes):
        return False
    return (is_integer_between(1, 2, rank) and is_dict_of_names(methods)
            and is_tuple_of_unlike_names(MOST_OWN_FIELDS, fields))


def has_right_family(classes, name):
    """Whether no ancestor of the class is its own one, and all its fields may stand together."""
    if goes_in_a_ring(classes, name):
        return False
    return is_tuple_of_unlike_names(MOST_FIELDS, all_fields(classes, name))


def are_functions(thing):
    """Whether these are the functions of a program, if their blocks are left aside."""
    if not isinstance(thing, dict) or not 1 <= len(thing) <= MOST_FUNCTIONS:
        return False
    return are_names(thing) and all([is_function(told) for told in thing.values()])


def is_function(thing):
    """Whether this is what a function is told by, its block aside."""
    if not isinstance(thing, tuple) or len(thing) != 3:
        return False
    parameters, rank, _ = thing
    return is_tuple_of_unlike_names(MOST_PARAMETERS, parameters) and is_integer_between(1, 2, rank)


def are_methods_of(classes, functions):
    """Whether each method is a function that has a parameter."""
    for _, _, _, methods in classes.values():
        for function in methods.values():
            if function not in functions or not functions[function][0]:
                return False
    return True
