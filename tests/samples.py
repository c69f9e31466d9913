"""Programs and odd objects that several tests use."""

from everyend.errors import BadProgram
from everyend.programs import Program
from everyend.runs import Run

COIN = Program({}, {}, {"f": ((), 1, (
    ("ask", "x", ("no", "yes")),
    ("if", ("same", "x", ("yes",)), (("pay", 2), ("call", "y", "f", ())), ()),
    ("return", ("done",))))})

WORD = Program({}, {}, {"f": (("a",), 1, (("raise", "a"),))})

# Two shared names, a family of classes of both levels, functions of both levels.
RICH = Program(
    {"top": "hi", "low": "lo"},
    {
        "cell": (None, 1, ("left",), {"see": "look"}),
        "pair": ("cell", 1, ("right",), {"turn": "swap"}),
        "box": (None, 2, ("in",), {}),
        "void": (None, 1, (), {}),
    },
    {
        "f": (("a", "b"), 1, (("return", "a"),)),
        "g": ((), 2, ()),
        "h": (("a", "b", "c"), 2, ()),
        "look": (("me",), 1, (("get", "x", "me", "left"), ("return", "x"))),
        "swap": (("me", "with"), 1, (("with", "x", "me", "left", "with"), ("return", "x"))),
    })


def nested(kind, many):
    """An object with many of its kind in each other."""
    thing = "a"
    for _ in range(many):
        thing = {"tuple": (thing,), "list": [thing], "dict": {"a": thing},
                 "thing": ("thing", "box", (thing,)), "kept": ("kept", "g", (thing,)),
                 "not": ("not", thing), "loop": (("loop", ("same", "a", "a"), thing),)}[kind]
    return thing


def odd_objects():
    """Objects of many kinds that are no name, no value, no point, no call and no end of RICH."""
    deep = [nested(kind, many) for many in (20, 60)
            for kind in ("tuple", "list", "dict", "not", "loop")]
    deep += [nested(kind, 28) for kind in ("thing", "kept")]
    return deep + [
        None, True, False, 0, 1, -1, 10 ** 29, "", "A", "aB", "a1", "a b", "abcdefghi", "a\n", "[a]",
        b"a", b"", bytearray(b"a"), [], {}, (), [()], ((),), ((), ()), (1, 2, 3), {"a": "b"},
        {(): []}, range(3), slice(1), object(), len, int, Ellipsis, NotImplemented, iter([]),
        ("row", ["a"]), ("thing", None), (None, None), ([], [], []), ({}, {}, {}), ([], [], [], []),
        ("value", None, ()), ("error", None, ()), ("f", 0, (), None), (COIN, COIN, COIN),
        (COIN, 0, (), ()), COIN, Run(WORD, ("f", ("no",), ())), BadProgram("last"), [1, [2, [3]]],
    ]


def one(*statements, parameters=(), rank=1, shared=None, classes=None, others=None):
    """A program whose function f has these statements."""
    functions = {"f": (parameters, rank, tuple(statements))}
    functions.update(others or {})
    return Program(shared or {}, classes or {}, functions)
