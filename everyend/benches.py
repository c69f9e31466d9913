"""What a desk holds: programs, a run, and what is needed to take lines back."""

from everyend.errors import NoName, NoRun, NothingDone
from everyend.names import is_name


class Bench:
    """The programs by their names, the run or None, and for each line that can be taken back, the last one last,
    what it did: a tuple (kind, what was there, its name)."""

    def __init__(self):
        self.programs = {}
        self.run = None
        self.done = []

    def copy(self):
        """Another bench on which all stands as here."""
        other = Bench()
        other.programs = dict(self.programs)
        other.run = None if self.run is None else self.run.copy()
        other.done = list(self.done)
        return other

    def program_of(self, name):
        """The program of a name."""
        if not is_name(name) or name not in self.programs:
            raise NoName(name)
        return self.programs[name]

    def begun_run(self):
        """The run, if there is one."""
        if self.run is None:
            raise NoRun()
        return self.run

    def exchange(self, name, program):
        """The name has this program from now on, or none."""
        self.done.append(("program", self.programs.get(name), name))
        self._put(name, program)

    def begin(self, run):
        """This is the run from now on."""
        self.done.append(("call", self.run, None))
        self.run = run

    def note_steps(self, many):
        """A line has done so many steps of the run."""
        self.done.append(("steps", many, None))

    def take_back(self):
        """Take back what was done last."""
        if not self.done:
            raise NothingDone()
        kind, before, name = self.done.pop()
        if kind == "program":
            self._put(name, before)
        elif kind == "call":
            # A copy of this bench may hold the same run.
            self.run = None if before is None else before.copy()
        elif before > 0:
            self.run.back(before)

    def _put(self, name, program):
        """Put the program in its place, or take it away."""
        if program is None:
            del self.programs[name]
        else:
            self.programs[name] = program
