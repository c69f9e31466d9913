"""What price tables and rank tables have in common."""

from everyend.points import is_call, is_point, known_entry


def is_table(program, call, thing, is_row):
    """Whether this is a dict from points, the entry of the call among them, to what is_row takes for rows."""
    if not is_call(program, call) or not isinstance(thing, dict):
        return False
    if not all([is_point(program, point) and is_row(program, row) for point, row in thing.items()]):
        return False
    return known_entry(program.sheet, call) in thing


def holds_at_all_points(sheet, table, keeps_rules):
    """Whether the rules are kept at each point of a table."""
    for point in table:
        if not keeps_rules(sheet, table, point):
            return False
    return True
