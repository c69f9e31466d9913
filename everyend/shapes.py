"""The forms of the statements: what must stand behind the first word, in its order."""

# A bare block is one without a return anywhere in it.
BLOCKS = ("block", "bare")

SHAPES = {
    "set": ("name", "expression"),
    "share": ("shared", "expression"),
    "pay": ("price",),
    "ask": ("name", "words"),
    "if": ("test", "block", "block"),
    "loop": ("test", "block"),
    "return": ("expression",),
    "raise": ("expression",),
    "try": ("block", "name", "block"),
    "last": ("bare", "block"),
    "call": ("name", "function", "expressions"),
    "apply": ("name", "expression", "expressions"),
    "send": ("name", "expression", "name", "expressions"),
    "new": ("name", "class", "expressions"),
    "keep": ("name", "function", "expressions"),
    "get": ("name", "expression", "name"),
    "with": ("name", "expression", "name", "expression"),
    "push": ("name", "expression", "expression"),
    "pop": ("name", "expression"),
}


def shape_of(word):
    """The kinds of the parts behind this first word, None if no statement begins with it."""
    return SHAPES.get(word)


def parts_of(statement):
    """A pair (kind, part) for each part of a right statement behind its first word."""
    return list(zip(SHAPES[statement[0]], statement[1:]))


def blocks_of(statement):
    """The inner blocks of a right statement."""
    return [part for kind, part in parts_of(statement) if kind in BLOCKS]


def size_of(block):
    """How many statements stand in a block, those in its inner blocks too."""
    many = len(block)
    for statement in block:
        many += sum([size_of(inner) for inner in blocks_of(statement)])
    return many


def nots_and_core(test):
    """How many nots stand ahead in a right test, and the test behind them."""
    many = 0
    while test[0] == "not":
        many += 1
        test = test[1]
    return many, test


def expressions_of(statement):
    """All expressions of a right statement, from the left to the right."""
    found = []
    for kind, part in parts_of(statement):
        if kind == "expression":
            found.append(part)
        elif kind == "expressions":
            found.extend(part)
        elif kind == "test":
            found.extend(expressions_of_test(part))
    return tuple(found)


def expressions_of_test(test):
    """The expressions of a right test, from the left to the right."""
    _, core = nots_and_core(test)
    return core[1:] if core[0] == "same" else core[1:2]
