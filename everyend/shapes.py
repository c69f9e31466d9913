"""The forms of the statements: what must stand behind the first word, in its order.

The name of a local that a statement sets is a "local"; other names that are
free, of fields and methods, are a "name".
"""

# A bare block is one without a return anywhere in it.
BLOCKS = ("block", "bare")

SHAPES = {
    "set": ("local", "expression"),
    "share": ("shared", "expression"),
    "pay": ("price",),
    "ask": ("local", "words"),
    "if": ("test", "block", "block"),
    "loop": ("test", "block"),
    "return": ("expression",),
    "raise": ("expression",),
    "try": ("block", "local", "block"),
    "last": ("bare", "block"),
    "call": ("local", "function", "expressions"),
    "apply": ("local", "expression", "expressions"),
    "send": ("local", "expression", "name", "expressions"),
    "new": ("local", "class", "expressions"),
    "keep": ("local", "function", "expressions"),
    "get": ("local", "expression", "name"),
    "with": ("local", "expression", "name", "expression"),
    "push": ("local", "expression", "expression"),
    "pop": ("local", "expression"),
}

# In texts: the first word of the line behind the first block, where a second one may stand.
SECOND_WORDS = {"if": "else", "try": "catch", "last": "after"}


def shape_of(word):
    """The kinds of the parts behind this first word, None if no statement begins with it."""
    return SHAPES.get(word)


def head_of(shape):
    """The kinds of the parts that stand ahead of the first block, in the line of a statement in texts."""
    head = []
    for kind in shape:
        if kind in BLOCKS:
            break
        head.append(kind)
    return tuple(head)


def parts_of(statement):
    """A pair (kind, part) for each part of a right statement behind its first word."""
    return list(zip(SHAPES[statement[0]], statement[1:]))


def blocks_of(statement):
    """The inner blocks of a right statement."""
    return [part for kind, part in parts_of(statement) if kind in BLOCKS]


def statements_of(block):
    """All statements of a right block, each ahead of those in its inner blocks."""
    found = []
    for statement in block:
        found.append(statement)
        for inner in blocks_of(statement):
            found.extend(statements_of(inner))
    return found


def size_of(block):
    """How many statements stand in a block, those in its inner blocks too."""
    return len(statements_of(block))


def nots_and_core(test):
    """How many nots stand ahead in a right test, and the test behind them."""
    many = 0
    while test[0] == "not":
        many += 1
        test = test[1]
    return many, test


def expressions_of(statement):
    """All expressions of a right statement, from the left to the right."""
    found = []
    for kind, part in parts_of(statement):
        if kind == "expression":
            found.append(part)
        elif kind == "expressions":
            found.extend(part)
        elif kind == "test":
            found.extend(expressions_of_test(part))
    return tuple(found)


def expressions_of_test(test):
    """The expressions of a right test, from the left to the right."""
    _, core = nots_and_core(test)
    return core[1:] if core[0] == "same" else core[1:2]
