"""What functions use, programs with one function changed, and what of price tables lasts then."""

from everyend.blocks import KINDS
from everyend.errors import BadCall, BadName, BadTable, NoName
from everyend.names import is_name
from everyend.points import is_call, is_function
from everyend.pricejudge import is_price_table
from everyend.programs import Program
from everyend.rings import all_from
from everyend.shapes import expressions_of, nots_and_core, parts_of, statements_of
from everyend.steps import followed, resumed


def uses(program, function):
    """The functions, the classes and the shared names that a function uses: a triple of ascending tuples."""
    if not is_function(program, function):
        raise NoName(function)
    shared, classes, functions = program.shared, program.classes, program.functions
    used = {"function": {}, "class": {}, "shared": {}}
    waiting = named_in_block(shared, functions[function][2])
    while waiting:
        kind, name = waiting.pop()
        if name not in used[kind]:
            used[kind][name] = True
            if kind == "function":
                waiting.extend(named_in_block(shared, functions[name][2]))
            elif kind == "class":
                waiting.extend(named_by_class(classes[name]))
    return tuple([tuple(sorted(names)) for names in used.values()])


def named_in_block(shared, block):
    """Pairs (kind, name) of what a block names: of functions, of classes and of the shared names."""
    named = []
    for statement in statements_of(block):
        names = list(expressions_of(statement))
        for kind, part in parts_of(statement):
            if kind in ("function", "class"):
                named.append((kind, part))
            elif kind in ("local", "shared"):
                names.append(part)
            elif kind == "test":
                named.extend(named_in_test(part))
        # Also a local stands for the shared name that it hides.
        named.extend([("shared", name) for name in names if name in shared])
    return named


def named_in_test(test):
    """A list of the class for which a test asks, if it does, as a pair like those above."""
    _, core = nots_and_core(test)
    return [("class", core[2])] if core[0] == "kind" and core[2] not in KINDS else []


def named_by_class(told):
    """Pairs like those above of what a class names."""
    parent, _, _, methods = told
    named = [("function", function) for function in methods.values()]
    return named if parent is None else named + [("class", parent)]


def with_function(program, name, function):
    """The program with this function under the name, also instead of the one that there is."""
    if not is_name(name):
        raise BadName()
    functions = program.functions
    functions[name] = function
    return Program(program.shared, program.classes, functions)


def without(program, name):
    """The program without this function."""
    if not is_function(program, name):
        raise NoName(name)
    functions = program.functions
    del functions[name]
    return Program(program.shared, program.classes, functions)


def lasting(program, call, table, name):
    """That part of a price table of a call from which no point of the function with this name is led to."""
    if not is_call(program, call):
        raise BadCall()
    if not is_price_table(program, call, table):
        raise BadTable()
    if not is_function(program, name):
        raise NoName(name)
    befores = {point: [] for point in table}
    for point in table:
        for other in points_ahead(program.sheet, table, point):
            befores[other].append(point)
    changed = {}
    for point in table:
        if point[0] == name:
            all_from(point, befores, changed)
    return {point: {end: prices for end, prices in row.items()}
            for point, row in table.items() if point not in changed}


def points_ahead(sheet, table, point):
    """The points to which a point of a price table leads, by the ends that the table tells."""
    told = followed(sheet, point)
    if told[0] == "on":
        return told[2]
    if told[0] == "end":
        return ()
    afters = [(end, resumed(sheet, point, end)) for end in table[told[1]]]
    # A frame that ends by the end of another one has just this end, too.
    return (told[1], *[after for end, after in afters if after != end])
