"""What is asked of single things and of tuples of names."""


def is_name(thing):
    """Whether this is a string of 1 to 8 letters a to z."""
    return (isinstance(thing, str) and 1 <= len(thing) <= 8
            and thing.isascii() and thing.isalpha() and thing.islower())


def is_integer_between(low, high, thing):
    """Whether this is an integer, and no flag, from low to high."""
    return isinstance(thing, int) and not isinstance(thing, bool) and low <= thing <= high


def are_names(things):
    """Whether all of these, of a row or the keys of a dict, are names."""
    return all([is_name(thing) for thing in things])


def is_tuple_of_names(most, thing):
    """Whether this is a tuple of at most so many names."""
    return isinstance(thing, tuple) and len(thing) <= most and are_names(thing)


def is_tuple_of_unlike_names(most, thing):
    """Whether this is a tuple of at most so many names, each of them once."""
    return is_tuple_of_names(most, thing) and len(set(thing)) == len(thing)


def is_dict_of_names(thing):
    """Whether this is a dict from names to names."""
    return isinstance(thing, dict) and are_names(thing) and are_names(list(thing.values()))


def is_integer_from(low, thing):
    """Whether this is an integer, and no flag, from low on."""
    return isinstance(thing, int) and not isinstance(thing, bool) and low <= thing
