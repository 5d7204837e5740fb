"""How tests tell errors, and things of all kinds that are no strings or no programs."""

from unseenheap.errors import HeapError


def told(function, *args):
    """What a call returns, or its error's name and what it keeps."""
    try:
        return function(*args)
    except HeapError as error:
        return (type(error).__name__, *error.args)


def nested(many, inner=()):
    """A tuple in tuples."""
    for _ in range(many):
        inner = (inner,)
    return inner


def nested_list(many):
    """A list in lists."""
    inner = []
    for _ in range(many):
        inner = [inner]
    return inner


def nested_dict(many):
    """A dict in dicts."""
    inner = {}
    for _ in range(many):
        inner = {"a": inner}
    return inner


NO_STRINGS = [
    None, True, False, 0, -1, 10 ** 39, b"say 1;", bytearray(b"a"), [], ["say 1;"], (), ("a",), {}, {"a": 1},
    range(3), frozenset(), int, len, slice(1), iter("a"), memoryview(b"a"), Ellipsis, object(),
    nested(249), nested_list(249), nested_dict(249), tuple(range(20000)), list("a" * 20000),
]
