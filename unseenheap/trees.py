"""Trees of programs: whether a thing is one, and how deep it is."""

from unseenheap.errors import NoProgram
from unseenheap.forms import ASKED, METHOD, ROWS, shape_of, shape_within
from unseenheap.kinds import is_integer
from unseenheap.lexing import GREATEST, is_name, is_plain

MOST_DEPTH = 50
LEAVES = ("name", "elder", "text", "number", "asked")


def is_program(thing):
    """Whether a thing is a tree that read tells of some text."""
    return is_formed(thing) and deepest(thing) <= MOST_DEPTH


def depth(program):
    """How deep a program is."""
    if not is_program(program):
        raise NoProgram()
    return deepest(program)


def is_formed(thing):
    """Whether a thing is made as a program's tree is, of whatever depth."""
    waiting = [("program", thing)]
    while waiting:
        sort, part = waiting.pop()
        inner = parts_of(sort, part)
        if inner is None:
            return False
        waiting.extend(inner)
    return True


def parts_of(sort, part):
    """The pairs (sort, part) of which a part is made, or None if it is not of its sort."""
    if sort in LEAVES:
        return [] if is_leaf(sort, part) else None
    if not isinstance(part, tuple):
        return None
    if sort in ROWS:
        return [(ROWS[sort], inner) for inner in part]
    if sort == "method":
        return paired(METHOD, part)
    return parts_behind_head(sort, part)


def parts_behind_head(sort, part):
    """As parts_of, of a tuple with a word at its head."""
    if not part or not isinstance(part[0], str):
        return None
    shape = shape_of(sort, part[0])
    if shape is None:
        return None
    inner = paired(shape, part[1:])
    if part[0] == "ask" and inner is not None and not has_asked_args(part[1], part[2]):
        return None
    return inner


def paired(shape, parts):
    """The pairs of the sorts of a shape with parts, or None if these are more or fewer."""
    if len(shape) != len(parts):
        return None
    return list(zip(shape, parts))


def has_asked_args(key, args):
    """Whether args are as many as a key that asks wants; yield wants none."""
    return isinstance(args, tuple) and len(args) == (0 if key == "yield" else 1)


def is_leaf(sort, part):
    """Whether a part is of its sort, which is one of those that have nothing within."""
    if sort == "name":
        return is_name(part)
    if sort == "elder":
        return part is None or is_name(part)
    if sort == "text":
        return is_plain(part)
    if sort == "number":
        return is_integer(part) and 0 <= part <= GREATEST
    return isinstance(part, str) and (part in ASKED or part == "yield")


def deepest(program):
    """How deep a tree is; it may be deeper than calls can nest."""
    waiting = [(node, 1) for node in outermost(program)]
    most = 0
    while waiting:
        node, level = waiting.pop()
        most = max(most, level)
        waiting.extend([(inner, level + 1) for inner in within(node)])
    return most


def outermost(program):
    """The statements that stand at the top, and in the blocks of functions and methods."""
    found = []
    for item in program:
        if item[0] == "class":
            for method in item[4]:
                found.extend(method[2])
        elif item[0] == "function":
            found.extend(item[3])
        else:
            found.append(item)
    return found


def within(node):
    """The statements and expressions just within a statement or an expression, as they stand."""
    found = []
    for sort, part in zip(shape_within(node[0]), node[1:]):
        if sort == "e" or sort == "place":
            found.append(part)
        elif sort == "args" or sort == "block":
            found.extend(part)
    return found
