"""Programs written as texts."""

from everyend.shapes import SECOND_WORDS, SHAPES, blocks_of, head_of, nots_and_core


def program_text(program):
    """The text of a program."""
    lines = [f"shared {name} {word}" for name, word in sorted(program.shared.items())]
    classes, functions = program.classes, program.functions
    for name in sorted(classes):
        lines.extend(class_lines(name, classes[name]))
    for name in sorted(functions):
        parameters, rank, block = functions[name]
        lines.append(" ".join(["function", name, str(rank), *parameters]))
        lines.extend(block_lines(block))
    return "".join([line + "\n" for line in lines])


def class_lines(name, told):
    """The lines of a class and of its own methods."""
    parent, rank, fields, methods = told
    head = " ".join(["class", name, str(rank), "-" if parent is None else parent, *fields])
    return [head, *[f"  method {method} {methods[method]}" for method in sorted(methods)]]


def block_lines(block):
    """The lines of a block, deeper by two blanks than what it stands in."""
    return ["  " + line for statement in block for line in statement_lines(statement)]


def statement_lines(statement):
    """The lines of a statement and of its blocks."""
    words = [statement[0]]
    for kind, part in zip(head_of(SHAPES[statement[0]]), statement[1:]):
        words.extend(words_of_part(kind, part))
    lines = [" ".join(words)]
    blocks = blocks_of(statement)
    if blocks:
        lines.extend(block_lines(blocks[0]))
    if len(blocks) == 2 and (statement[0] != "if" or blocks[1]):
        lines.append(second_line(statement))
        lines.extend(block_lines(blocks[1]))
    return lines


def second_line(statement):
    """The line ahead of the second block."""
    word = SECOND_WORDS[statement[0]]
    return f"{word} {statement[2]}" if word == "catch" else word


def words_of_part(kind, part):
    """The words of a part that is no block."""
    if kind == "test":
        return words_of_test(part)
    if kind == "expression":
        return [word_of_expression(part)]
    if kind == "expressions":
        return [word_of_expression(expression) for expression in part]
    return list(part) if kind == "words" else [str(part)]


def words_of_test(test):
    """The words of a test."""
    many, core = nots_and_core(test)
    # The kind for which a test asks is written as a name is.
    return ["not"] * many + [core[0], word_of_expression(core[1]), word_of_expression(core[2])]


def word_of_expression(expression):
    """An expression, written."""
    return "'" + expression[0] if isinstance(expression, tuple) else expression
