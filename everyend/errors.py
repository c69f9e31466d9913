"""The errors of the package. Each is made with just what it keeps."""


class EndError(ValueError):
    """The base of all errors of the package."""

    def __init__(self):
        ValueError.__init__(self)


class BadValue(EndError):
    """No value of the program, or nothing of the form of a value."""


class BadProgram(EndError):
    """A part of a program is not as it must be."""

    # Here and below Python itself keeps what an error is made with as its message.
    def __init__(self, part):
        self.part = part


class NoName(EndError):
    """Nothing has this name."""

    def __init__(self, name):
        self.name = name


class BadCall(EndError):
    """No call of the program."""


class BadPoint(EndError):
    """No point of the program, or none of the kind that is asked for."""


class BadEnd(EndError):
    """No end of the program."""


class HasEnded(EndError):
    """The run has ended."""


class BadAnswer(EndError):
    """Not what the run asks for."""


class BadAnswers(EndError):
    """The answer with this number is wrong, or missing; -1 if the answers are no row."""

    def __init__(self, index):
        self.index = index


class BadNumber(EndError):
    """Not a number that is let."""


class TooLong(EndError):
    """The run has too many steps."""


class TooMany(EndError):
    """There are more than this many."""

    def __init__(self, most):
        self.most = most


class NeverComes(EndError):
    """The end cannot come."""


class Grows(EndError):
    """There is no greatest price."""


class BadShared(EndError):
    """The programs have not the same shared names."""


class BadNames(EndError):
    """Not names that are let for the names of a function."""


class BadWords(EndError):
    """Not words that are let for the parameters of a function."""


class BadName(EndError):
    """No name, or one that is taken."""


class BadTable(EndError):
    """No price table of the call."""


class BadText(EndError):
    """This line of a text cannot stand there; 0 if it is no text."""

    def __init__(self, line):
        self.line = line


class NoLine(EndError):
    """No line that the desk knows."""


class NoRun(EndError):
    """The desk has no run."""


class NothingDone(EndError):
    """There is nothing to take back."""
