"""Rank tables, which show that all runs of a call end."""

from everyend.asking import surveyed
from everyend.goingon import follower_rows, goes_on
from everyend.names import is_integer_from
from everyend.points import end_order, is_end
from everyend.rings import rings_of
from everyend.steps import followed, resumed
from everyend.surveys import numbers_in
from everyend.tables import holds_at_all_points, is_table


def rank_table(program, call):
    """The rank table of a call that has just what is reached and can come, None if there is none."""
    survey = surveyed(program, call)
    if goes_on(survey):
        return None
    ranks = ranks_of(survey)
    in_order = sorted(survey.ends, key=end_order)
    places = {survey.end_numbers[end]: place for place, end in enumerate(in_order)}
    table = {}
    for point, node in survey.points.items():
        own = sorted([places[number] for number in numbers_in(node.mask)])
        table[point] = (ranks[node.number], tuple([in_order[place] for place in own]))
    return table


def ranks_of(survey):
    """A rank for each node, above those to which it leads. No run goes on for ever."""
    nexts = follower_rows(survey)
    ranks = [0] * len(nexts)
    for ring in rings_of(list(range(len(nexts))), nexts):
        for number in ring:
            ranks[number] = 1 + max([ranks[other] for other in nexts[number]], default=-1)
    return ranks


def is_rank_table(program, call, thing):
    """Whether this is a rank table of the call: whether its ranks and ends keep the rules at each of its points."""
    if not is_table(program, call, thing, is_row):
        return False
    # The ends of each row as a dict, to look them up.
    table = {point: (rank, {end: True for end in row}) for point, (rank, row) in thing.items()}
    return holds_at_all_points(program.sheet, table, keeps_rules)


def is_row(program, thing):
    """Whether this is a pair of a rank and a row of unlike ends."""
    if not isinstance(thing, tuple) or len(thing) != 2 or not is_integer_from(0, thing[0]):
        return False
    own = thing[1]
    if not isinstance(own, (list, tuple)) or not all([is_end(program, end) for end in own]):
        return False
    return len(set(own)) == len(own)


def keeps_rules(sheet, table, point):
    """Whether the rank and the ends at a point of the table fit what follows there."""
    told = followed(sheet, point)
    if told[0] == "end":
        return told[1] in table[point][1]
    if told[0] == "on":
        return all([is_below(table, other, point) for other in told[2]])
    called = told[1]
    if called not in table or table[called][0] >= table[point][0]:
        return False
    for end in table[called][1]:
        after = resumed(sheet, point, end)
        # A frame that ends by the end of another one has just this end, too.
        if not (end in table[point][1] if after == end else is_below(table, after, point)):
            return False
    return True


def is_below(table, lower, point):
    """Whether the one is in the table, with a lesser rank than the point and with none but its ends."""
    if lower not in table or table[lower][0] >= table[point][0]:
        return False
    return all([end in table[point][1] for end in table[lower][1]])
