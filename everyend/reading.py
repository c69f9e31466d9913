"""Programs read from texts."""

from everyend.errors import BadText
from everyend.heads import parts_in
from everyend.programs import Program
from everyend.shapes import SECOND_WORDS, SHAPES, head_of

# The first words of the lines that stand without blanks ahead, in the order of these lines.
SECTIONS = ("shared", "class", "function")
CLASS_SECTION = 1


def read_program(text):
    """The program whose text this is."""
    if not isinstance(text, str):
        raise BadText(0)
    *lines, rest = text.split("\n")
    reader = Reader()
    for at, line in enumerate(lines):
        if not reader.take(line):
            raise BadText(at + 1)
    if rest or not reader.close(0):
        raise BadText(len(lines) + 1)
    shared, classes, functions = reader.sections
    return Program(shared, classes, functions)


class OpenBlock:
    """A block of which further lines may come."""

    def __init__(self, word, parts):
        # The first word of the line behind which the block stands.
        self.word = word
        # What is known of the statement, or of the function, ahead of this block.
        self.parts = parts
        self.statements = []

    def needs_more(self):
        """Whether a further line must come ahead of the end of the statement in which the block stands."""
        return self.word in ("try", "last") or (self.word == "else" and not self.statements)

    def ended(self):
        """The list of the parts, with the block behind them."""
        return [*self.parts, tuple(self.statements)]


class Reader:
    """Takes lines one by one; each is one with which some text can go on, or is not taken.

    sections: a triple of dicts of what was told of shared names, classes and functions.
    """

    def __init__(self):
        self.sections = ({}, {}, {})
        # The section of the last line without blanks ahead, and the name in this line and in the last method line.
        self._section = 0
        self._name = ""
        self._method = ""
        # The blocks of the last function that are open, each stands in the one ahead of it.
        self._blocks = []

    def take(self, line):
        """Take a line; tell whether it was taken."""
        told = line.lstrip(" ")
        deep, odd = divmod(len(line) - len(told), 2)
        words = told.split(" ")
        parts = parts_in(words)
        if odd or parts is None:
            return False
        if deep == 0:
            return self.close(0) and self._begin(words[0], parts)
        if self._section == CLASS_SECTION:
            return deep == 1 and words[0] == "method" and self._add_method(parts)
        if deep > len(self._blocks):
            return False
        if words[0] in SHAPES:
            return self.close(deep) and self._add_statement(words[0], parts)
        return self.close(deep + 1) and deep < len(self._blocks) and self._begin_second(words[0], parts)

    def close(self, many):
        """Close all open blocks but so many; tell whether they may end here."""
        while len(self._blocks) > many:
            last = self._blocks.pop()
            if last.needs_more():
                return False
            parts = last.ended()
            if last.word == "function":
                name, rank, parameters, block = parts
                self.sections[self._section][name] = (parameters, rank, block)
            else:
                self._blocks[-1].statements.append(tuple(parts + [()] if last.word == "if" else parts))
        return True

    def _begin(self, word, parts):
        """Begin a shared name, a class or a function."""
        if word not in SECTIONS or SECTIONS.index(word) < self._section:
            return False
        section = SECTIONS.index(word)
        if section == self._section and parts[0] <= self._name:
            return False
        self._section = section
        self._name = parts[0]
        self._method = ""
        if word == "shared":
            self.sections[section][parts[0]] = parts[1]
        elif word == "class":
            name, rank, parent, fields = parts
            self.sections[section][name] = (parent, rank, fields, {})
        else:
            self._blocks.append(OpenBlock(word, parts))
        return True

    def _add_method(self, parts):
        """Add a method to the last class."""
        method, function = parts
        if method <= self._method:
            return False
        self._method = method
        _, _, _, methods = self.sections[CLASS_SECTION][self._name]
        methods[method] = function
        return True

    def _add_statement(self, word, parts):
        """Add a statement to the last block, or begin it."""
        if len(parts) == len(SHAPES[word]):
            self._blocks[-1].statements.append((word, *parts))
        else:
            self._blocks.append(OpenBlock(word, [word, *parts]))
        return True

    def _begin_second(self, word, parts):
        """Begin the second block of a statement of which the first one is open."""
        first = self._blocks.pop()
        if SECOND_WORDS.get(first.word) != word:
            return False
        self._blocks.append(OpenBlock(word, first.ended() + parts))
        return True
