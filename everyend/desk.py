"""A desk that works by lines."""

from everyend.benches import Bench
from everyend.desklines import parts_of_line, priced_text, run_text
from everyend.goingon import always_ends
from everyend.points import begin_call, end_order
from everyend.prices import entry_row
from everyend.reading import read_program
from everyend.runs import Run

MOST_STEPS = 2000
DONE = "ok"
NOTHING = "none"


class Desk:
    """Keeps programs by names, and a run. Its lines alone change it."""

    def __init__(self):
        self._bench = Bench()

    def tell(self, line):
        """Do a line; return its answer."""
        return answer_to(self._bench, line)

    def would(self, line):
        """The answer that a line would have."""
        return answer_to(self._bench.copy(), line)

    def kept(self, name):
        """The program of a name."""
        return self._bench.program_of(name)

    def undoable(self):
        """How many lines can be taken back."""
        return len(self._bench.done)


def answer_to(bench, line):
    """Do a line on a bench; return its answer."""
    word, *parts = parts_of_line(line)
    act = ACTS[word]
    return act(bench, parts)


def do_program(bench, parts):
    """program: a program is put under a name."""
    name, text = parts
    bench.exchange(name, read_program(text.replace("|", "\n")))
    return DONE


def do_drop(bench, parts):
    """drop: the program of a name is taken away."""
    bench.program_of(parts[0])
    bench.exchange(parts[0], None)
    return DONE


def program_and_call(bench, parts):
    """The program and the call that a line names."""
    name, function, *words = parts
    program = bench.program_of(name)
    return program, begin_call(program, function, tuple(words))


def do_call(bench, parts):
    """call: a run is begun."""
    program, call = program_and_call(bench, parts)
    bench.begin(Run(program, call))
    return DONE


def do_give(bench, parts):
    """give: the run does a step by an answer."""
    bench.begun_run().step(parts[0])
    bench.note_steps(1)
    return DONE


def do_go(bench, parts):
    """go: the run goes on as long as it asks nothing."""
    run = bench.begun_run()
    before = run.steps
    # No point is of no function: so nothing else stops it.
    run.to(None, None, MOST_STEPS)
    bench.note_steps(run.steps - before)
    return DONE


def do_look(bench, parts):
    """look: how the run stands."""
    return NOTHING if bench.run is None else run_text(bench.run)


def do_price(bench, parts):
    """price: what the run has cost."""
    return str(bench.begun_run().price)


def do_ends(bench, parts):
    """ends: all ends of a call with their prices."""
    program, call = program_and_call(bench, parts)
    row = entry_row(program, call)
    return " | ".join([priced_text(end, row[end]) for end in sorted(row, key=end_order)]) or NOTHING


def do_settles(bench, parts):
    """settles: whether all runs of a call end."""
    program, call = program_and_call(bench, parts)
    return "yes" if always_ends(program, call) else "no"


def do_names(bench, parts):
    """names: the names of the programs."""
    return " ".join(sorted(bench.programs)) or NOTHING


def do_undo(bench, parts):
    """undo: what was done last is taken back."""
    bench.take_back()
    return DONE


ACTS = {
    "program": do_program,
    "drop": do_drop,
    "call": do_call,
    "give": do_give,
    "go": do_go,
    "look": do_look,
    "price": do_price,
    "ends": do_ends,
    "settles": do_settles,
    "names": do_names,
    "undo": do_undo,
}
