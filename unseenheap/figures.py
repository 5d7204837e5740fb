"""Numbers as they are written: figures without needless noughts."""

from unseenheap.lexing import FIGURES


def number_written(text, most):
    """The number that a text of at most so many figures is, or None if it is none."""
    if not 1 <= len(text) <= most or not all([sign in FIGURES for sign in text]):
        return None
    if text[0] == "0" and text != "0":
        return None
    return int(text)


def integer_written(text, most):
    """The integer that a text of at most so many figures is, a - ahead of them if it is below nought, or None."""
    if not text.startswith("-"):
        return number_written(text, most)
    found = number_written(text[1:], most)
    return None if found is None or found == 0 else -found
