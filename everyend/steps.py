"""What one step does, for points and ends that are known to be right.

An act does a statement. It is told the sheet of the program, the point, the
spot at its place and the values of the expressions of the statement, and
tells what follows, as following does.
"""

from everyend.points import known_entry
from everyend.shapes import nots_and_core
from everyend.values import MOST_WORDS, known_level


def followed(sheet, point):
    """What follows at a point."""
    spot = spot_at(sheet, point)
    values = [value_of(sheet, point, expression) for expression in spot.expressions]
    if None in values:
        return raised(point, spot, "unset")
    act = ACTS[spot.statement[0]]
    return act(sheet, point, spot, values)


def resumed(sheet, point, end):
    """The point at which a frame at this point goes on, or the end with which it ends,
    if the frame that it called ends so."""
    spot = spot_at(sheet, point)
    function, place, pairs, _ = point
    kind, worth, shared = end
    below = (function, place, pairs, shared)
    told = got(below, spot, worth) if kind == "value" else raised(below, spot, worth)
    return told[2][0] if told[0] == "on" else told[1]


def words_asked(sheet, point):
    """The words of the ask at a point, None if no ask is there."""
    statement = spot_at(sheet, point).statement
    return statement[2] if statement[0] == "ask" else None


def spot_at(sheet, point):
    """The spot at the place of a point."""
    return sheet.spots[point[0]][point[1]]


def value_of(sheet, point, expression):
    """The value of an expression, None if it has none."""
    if isinstance(expression, tuple):
        return expression[0]
    for name, value in point[2]:
        if name == expression:
            return value
    if expression in sheet.shared_names:
        return point[3][sheet.shared_names.index(expression)]
    return None


def with_local(pairs, name, value):
    """The locals, with this value for the name."""
    others = [pair for pair in pairs if pair[0] != name]
    return tuple(sorted(others + [(name, value)]))


def went(point, place):
    """The frame goes on at another place, and nothing else changes."""
    function, _, pairs, shared = point
    return ("on", 0, ((function, place, pairs, shared),))


def point_with(point, place, name, value):
    """The point at another place at which the local has this value."""
    function, _, pairs, shared = point
    return (function, place, with_local(pairs, name, value), shared)


def got(point, spot, value):
    """The local that the statement names gets the value, and the frame goes on."""
    return ("on", 0, (point_with(point, spot.after, spot.statement[1], value),))


def raised(point, spot, word):
    """The word is raised: the frame goes on where it is caught, or ends with it."""
    if spot.catch is None:
        return ("end", ("error", word, point[3]))
    name, place = spot.catch
    return ("on", 0, (point_with(point, place, name, word),))


def called(sheet, point, spot, function, arguments):
    """The function is called with a list of arguments."""
    if len(arguments) != len(sheet.parameters[function]):
        return raised(point, spot, "count")
    return ("call", known_entry(sheet, (function, tuple(arguments), point[3])))


def is_of(kind, value):
    """Whether the value is a row, a thing or a kept function, as the kind says."""
    return isinstance(value, tuple) and value[0] == kind


def all_below(sheet, bound, values):
    """Whether all the values have levels below the bound."""
    return all([known_level(sheet, value) < bound for value in values])


def holds(sheet, test, values):
    """Whether a test holds, if its expressions have these values."""
    many, core = nots_and_core(test)
    if core[0] == "same":
        answer = values[0] == values[1]
    else:
        answer = is_of_kind(sheet, core[2], values[0])
    return answer if many in (0, 2) else not answer


def is_of_kind(sheet, kind, value):
    """Whether a value is of the kind for which a test asks."""
    if isinstance(value, str):
        return kind == "word"
    if value[0] == "thing":
        return kind in sheet.families[value[1]]
    return kind == value[0]


def do_set(sheet, point, spot, values):
    """set: the local gets the value."""
    return got(point, spot, values[0])


def do_share(sheet, point, spot, values):
    """share: the shared name gets a value of level 0 or 1."""
    if not all_below(sheet, 2, values):
        return raised(point, spot, "deep")
    function, _, pairs, shared = point
    at = sheet.shared_names.index(spot.statement[1])
    changed = shared[:at] + (values[0],) + shared[at + 1:]
    return ("on", 0, ((function, spot.after, pairs, changed),))


def do_pay(sheet, point, spot, values):
    """pay: the run costs more."""
    _, _, points = went(point, spot.after)
    return ("on", spot.statement[1], points)


def do_ask(sheet, point, spot, values):
    """ask: the local gets one of the words."""
    _, name, words = spot.statement
    return ("on", 0, tuple([point_with(point, spot.after, name, word) for word in words]))


def do_if(sheet, point, spot, values):
    """if: to the first block or to the second one."""
    return went(point, spot.first if holds(sheet, spot.statement[1], values) else spot.second)


def do_loop(sheet, point, spot, values):
    """loop: to the block or behind it."""
    return went(point, spot.first if holds(sheet, spot.statement[1], values) else spot.after)


def do_try(sheet, point, spot, values):
    """try: to the first block."""
    return went(point, spot.first)


def do_return(sheet, point, spot, values):
    """return: the frame ends with the value."""
    return ("end", ("value", values[0], point[3]))


def do_raise(sheet, point, spot, values):
    """raise: the word is raised."""
    return raised(point, spot, values[0] if isinstance(values[0], str) else "kind")


def do_end(sheet, point, spot, values):
    """The end place: the frame ends with none."""
    return ("end", ("value", "none", point[3]))


def do_call(sheet, point, spot, values):
    """call: the function is called with the values."""
    return called(sheet, point, spot, spot.statement[2], values)


def do_apply(sheet, point, spot, values):
    """apply: the kept function is called with its values and then the others."""
    kept = values[0]
    if not is_of("kept", kept):
        return raised(point, spot, "kind")
    return called(sheet, point, spot, kept[1], list(kept[2]) + values[1:])


def do_send(sheet, point, spot, values):
    """send: the method of the thing is called with the thing and the others."""
    if not is_of("thing", values[0]):
        return raised(point, spot, "kind")
    function = sheet.methods[values[0][1]].get(spot.statement[3])
    if function is None:
        return raised(point, spot, "method")
    return called(sheet, point, spot, function, values)


def do_new(sheet, point, spot, values):
    """new: the local gets the thing of the class with the values."""
    name = spot.statement[2]
    if len(values) != len(sheet.fields[name]):
        return raised(point, spot, "count")
    if not all_below(sheet, sheet.class_levels[name], values):
        return raised(point, spot, "deep")
    return got(point, spot, ("thing", name, tuple(values)))


def do_keep(sheet, point, spot, values):
    """keep: the local gets the kept function with the values."""
    name = spot.statement[2]
    if len(values) > len(sheet.parameters[name]):
        return raised(point, spot, "count")
    if not all_below(sheet, sheet.function_levels[name], values):
        return raised(point, spot, "deep")
    return got(point, spot, ("kept", name, tuple(values)))


def field_error(sheet, value, field):
    """The word to raise if the value is no thing with this field, None if it is."""
    if not is_of("thing", value):
        return "kind"
    return None if field in sheet.fields[value[1]] else "field"


def do_get(sheet, point, spot, values):
    """get: the local gets the value of the field."""
    thing, field = values[0], spot.statement[3]
    wrong = field_error(sheet, thing, field)
    if wrong is not None:
        return raised(point, spot, wrong)
    return got(point, spot, thing[2][sheet.fields[thing[1]].index(field)])


def do_with(sheet, point, spot, values):
    """with: the local gets the thing with another value in the field."""
    thing, field = values[0], spot.statement[3]
    wrong = field_error(sheet, thing, field)
    if wrong is not None:
        return raised(point, spot, wrong)
    if not all_below(sheet, sheet.class_levels[thing[1]], values[1:]):
        return raised(point, spot, "deep")
    at = sheet.fields[thing[1]].index(field)
    return got(point, spot, ("thing", thing[1], thing[2][:at] + (values[1],) + thing[2][at + 1:]))


def do_push(sheet, point, spot, values):
    """push: the local gets the row with a further word."""
    row = ("row", ()) if values[0] == "none" else values[0]
    if not is_of("row", row) or not isinstance(values[1], str):
        return raised(point, spot, "kind")
    if len(row[1]) == MOST_WORDS:
        return raised(point, spot, "full")
    return got(point, spot, ("row", row[1] + (values[1],)))


def do_pop(sheet, point, spot, values):
    """pop: the local gets the row without its last word."""
    row = values[0]
    if not is_of("row", row):
        return raised(point, spot, "kind")
    if not row[1]:
        return raised(point, spot, "empty")
    return got(point, spot, ("row", row[1][:-1]))


ACTS = {
    "set": do_set,
    "share": do_share,
    "pay": do_pay,
    "ask": do_ask,
    "if": do_if,
    "loop": do_loop,
    "try": do_try,
    "return": do_return,
    "raise": do_raise,
    "end": do_end,
    "call": do_call,
    "apply": do_apply,
    "send": do_send,
    "new": do_new,
    "keep": do_keep,
    "get": do_get,
    "with": do_with,
    "push": do_push,
    "pop": do_pop,
}
