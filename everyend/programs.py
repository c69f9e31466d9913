"""Programs, and what their classes have."""

from everyend.checks import first_wrong_part
from everyend.errors import BadProgram, NoName
from everyend.lasts import plain_functions
from everyend.names import is_name
from everyend.sheets import Sheet


class Program:
    """A program: its shared names, its classes and its functions.

    The attribute sheet, for the package's own use, is what the program
    without lasts says: of that all is told that is told of runs.
    """

    def __init__(self, shared, classes, functions):
        part = first_wrong_part(shared, classes, functions)
        if part is not None:
            raise BadProgram(part)
        plain = plain_functions(functions)
        if plain is None:
            raise BadProgram("last")
        self._shared = dict(shared)
        self._classes = copy_of_classes(classes)
        self._functions = dict(functions)
        self._plain = plain
        self.sheet = Sheet(self._shared, self._classes, plain)

    @property
    def shared(self):
        """A dict from the shared names to their first words."""
        return dict(self._shared)

    @property
    def classes(self):
        """A dict from the names of the classes to (parent, level, fields, methods)."""
        return copy_of_classes(self._classes)

    @property
    def functions(self):
        """A dict from the names of the functions to (parameters, level, block)."""
        return dict(self._functions)

    def __eq__(self, other):
        return (isinstance(other, Program) and self._shared == other._shared
                and self._classes == other._classes and self._functions == other._functions)

    def plain_copy(self):
        """The program without statements last."""
        if self._plain == self._functions:
            return self
        made = Program(self._shared, self._classes, self._functions)
        # Not by making a Program of them: plain blocks may be longer than blocks that are passed.
        made._functions = self._plain
        return made


def copy_of_classes(classes):
    """The classes, with new dicts for their methods."""
    return {name: (parent, rank, fields, dict(methods))
            for name, (parent, rank, fields, methods) in classes.items()}


def fields_of(program, name):
    """All fields of a class, those of its parent first."""
    if not is_name(name) or name not in program.sheet.fields:
        raise NoName(name)
    return program.sheet.fields[name]


def method_of(program, name, method):
    """The name of the function that is this method of a class, or None."""
    if not is_name(name) or name not in program.sheet.methods:
        raise NoName(name)
    return program.sheet.methods[name].get(method) if is_name(method) else None
