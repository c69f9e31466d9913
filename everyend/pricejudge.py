"""Whether something is a price table of a call."""

from everyend.names import is_integer_from
from everyend.points import is_end
from everyend.steps import followed, resumed
from everyend.tables import holds_at_all_points, is_table


def is_price_table(program, call, thing):
    """Whether this is a price table of the call: whether its numbers keep the rules at each of its points."""
    return is_table(program, call, thing, is_row) and holds_at_all_points(program.sheet, thing, keeps_rules)


def is_row(program, thing):
    """Whether this is a dict from ends to pairs of prices."""
    if not isinstance(thing, dict):
        return False
    return all([is_end(program, end) and are_prices(pair) for end, pair in thing.items()])


def are_prices(thing):
    """Whether this is a pair of a price, and a price or None."""
    if not isinstance(thing, tuple) or len(thing) != 2:
        return False
    return is_integer_from(0, thing[0]) and (thing[1] is None or is_integer_from(0, thing[1]))


def keeps_rules(sheet, table, point):
    """Whether the ends and prices at a point of the table fit what follows there."""
    told = followed(sheet, point)
    row = table[point]
    if told[0] == "end":
        return told[1] in row and row[told[1]][0] == 0
    if told[0] == "on":
        paid = (told[1], told[1])
        return all([other in table and covers(row, paid, table[other]) for other in told[2]])
    if told[1] not in table:
        return False
    return all([keeps_rules_behind(sheet, table, point, end, paid) for end, paid in table[told[1]].items()])


def keeps_rules_behind(sheet, table, point, end, paid):
    """Whether the ends and prices at a call fit where it leads if the called frame ends so, at such prices."""
    after = resumed(sheet, point, end)
    # A frame that ends by the end of another one has just this end, too.
    if after == end:
        return covers(table[point], paid, {end: (0, 0)})
    return after in table and covers(table[point], paid, table[after])


def covers(row, paid, ahead):
    """Whether the row has all ends that are ahead, at prices that let what is paid now and what is paid then."""
    for end, (low, high) in ahead.items():
        if end not in row:
            return False
        told_low, told_high = row[end]
        if told_low > paid[0] + low:
            return False
        if told_high is not None and (paid[1] is None or high is None or paid[1] + high > told_high):
            return False
    return True
