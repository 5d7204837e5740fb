"""How tests run programs and tell what Plain tells."""

from unseenheap.plain import Plain
from unseenheap.reading import read


def plain(text, moments=(), most=10 ** 6):
    """A program's plain run."""
    run = Plain(read(text), moments)
    run.run(most)
    return run


def said(text, moments=(), most=10 ** 6):
    """The lines that a program puts out; it must come to its end."""
    run = plain(text, moments, most)
    assert run.is_over()
    return run.lines()


def value(text):
    """The line of an expression, or of the fault that it throws."""
    found = said("try { say " + text + "; } catch thrown { say thrown; }")
    assert len(found) == 1
    return found[0]


def all_of(run):
    """All that a run tells."""
    return (run.ticks(), run.is_over(), run.lines(), run.ends(), run.made())
