"""The places of a function's block, and what follows at each of them."""

from everyend.shapes import expressions_of, size_of


class Spot:
    """What stands at a place: the statement, and the places to which it can lead.

    The end place has the statement ("end",).
    """

    def __init__(self, statement, after, catch):
        self.statement = statement
        self.expressions = () if statement[0] == "end" else expressions_of(statement)
        # The place that follows the statement.
        self.after = after
        # The places to which the first and the second inner block lead, if it has them.
        self.first = None
        self.second = None
        # The name and the place of what catches an error that is raised here, or None.
        self.catch = catch


def spots_of(block):
    """The list of the spots of a block without lasts, by their places, the end place too."""
    spots = []
    lay_block(block, size_of(block), None, spots)
    spots.append(Spot(("end",), None, None))
    return spots


def lay_block(block, after, catch, spots):
    """Put the spots of a block behind the others; after follows its last statement."""
    for at, statement in enumerate(block):
        behind = len(spots) + size_of((statement,))
        follows = behind if at + 1 < len(block) else after
        lay_statement(statement, follows, catch, spots)


def lay_statement(statement, after, catch, spots):
    """Put the spots of a statement, and of those in its blocks, behind the others."""
    spot = Spot(statement, after, catch)
    place = len(spots)
    spots.append(spot)
    word = statement[0]
    if word == "loop":
        spot.first = lay_inner(statement[2], place, catch, spots)
    elif word == "if":
        spot.first = lay_inner(statement[2], after, catch, spots)
        spot.second = lay_inner(statement[3], after, catch, spots)
    elif word == "try":
        lay_try(spot, catch, spots)


def lay_try(spot, catch, spots):
    """Put the spots in the blocks of a try behind the others."""
    _, first, name, second = spot.statement
    begin = len(spots) + size_of(first)
    spot.second = begin if second else spot.after
    spot.first = lay_inner(first, spot.after, (name, spot.second), spots)
    lay_inner(second, spot.after, catch, spots)


def lay_inner(block, after, catch, spots):
    """Put the spots of an inner block behind the others; tell the place to go to to do it."""
    begin = len(spots)
    lay_block(block, after, catch, spots)
    return begin if block else after
