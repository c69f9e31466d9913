"""Values, their levels and their texts."""

from everyend.errors import BadValue
from everyend.names import is_name, is_tuple_of_names

MOST_WORDS = 3
# Above the levels of all values.
NO_LEVEL = 3


def is_value(program, thing):
    """Whether this is a value of the program."""
    return is_value_below(program.sheet, NO_LEVEL, thing)


def is_value_below(sheet, bound, thing):
    """Whether this is a value of a level below the bound."""
    if is_name(thing):
        return True
    if is_row(thing):
        return bound > 1
    # The levels come ahead of what the value holds: so nothing is looked at deeper than they go.
    if not is_holding(thing) or not holds_as_told(sheet, thing):
        return False
    own = known_level(sheet, thing)
    return own < bound and all([is_value_below(sheet, own, part) for part in thing[2]])


def is_row(thing):
    """Whether this is a row, as a value."""
    return (isinstance(thing, tuple) and len(thing) == 2 and thing[0] == "row"
            and is_tuple_of_names(MOST_WORDS, thing[1]))


def is_holding(thing):
    """Whether this has the form of a thing or a kept function, what it holds aside."""
    return (isinstance(thing, tuple) and len(thing) == 3 and thing[0] in ("thing", "kept")
            and is_name(thing[1]) and isinstance(thing[2], tuple))


def holds_as_told(sheet, thing):
    """Whether the class or the function is there, and so many values can be held by it."""
    kind, name, held = thing
    if kind == "thing":
        return name in sheet.fields and len(held) == len(sheet.fields[name])
    return name in sheet.parameters and len(held) <= len(sheet.parameters[name])


def known_level(sheet, value):
    """The level of what is known to be a value."""
    if isinstance(value, str):
        return 0
    if value[0] == "row":
        return 1
    levels = sheet.class_levels if value[0] == "thing" else sheet.function_levels
    return levels[value[1]]


def level(program, value):
    """The level of a value of the program."""
    if not is_value(program, value):
        raise BadValue()
    return known_level(program.sheet, value)


def value_text(value):
    """The text of a value of any program."""
    if is_name(value):
        return value
    if is_row(value):
        words = " ".join(value[1])
        return f"[{words}]"
    if not is_holding(value):
        raise BadValue()
    held = ", ".join([value_text(part) for part in value[2]])
    return f"{value[1]}({held})" if value[0] == "thing" else f"{value[1]}<{held}>"
