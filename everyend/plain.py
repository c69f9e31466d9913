"""Programs without statements last."""


def plain(program):
    """The program with each statement last written out as a try."""
    return program.plain_copy()
