"""The names of a program: their faults, what they mean, and programs that differ in them alone."""

from unseenheap.errors import BadNames, NoProgram
from unseenheap.forms import METHOD, ROWS, shape_of
from unseenheap.lexing import words
from unseenheap.reading import read
from unseenheap.scopes import Scopes
from unseenheap.trees import is_program

READ_OR_SET = ("use", "this", "super")
KEYS_SIGHTED = ("this", "super", "break", "continue", "return")


def name_faults(program):
    """The list of a program's faults of names, as they stand."""
    if not is_program(program):
        raise NoProgram()
    return [(word, name) for _, word, name in Scopes(program).faults]


def faults_by_line(text):
    """The list of (line, word, name) of the faults of names of a program's text."""
    scopes = Scopes(read(text))
    lines = [line for sort, word, line in words(text) if sort == "name" or sort == "key" and word in KEYS_SIGHTED]
    return [(lines[at], word, name) for at, word, name in scopes.faults]


def names(program):
    """The tuple, code by code, of (name, many, slots, captured)."""
    scopes = scopes_of(program)
    found = []
    for code in scopes.codes:
        slots = [scopes.variables[at] for at in code.made_here]
        told = tuple([(variable.name, variable.is_celled) for variable in slots])
        found.append((code.name, code.many, told, tuple(code.places)))
    return tuple(found)


def meanings(program):
    """The list of (code, name, place) of all names, and this and super, that are read or set."""
    scopes = scopes_of(program)
    return [
        (code, name, place_of(scopes, name, code, variable))
        for deed, name, code, variable in scopes.met if deed in READ_OR_SET
    ]


def scopes_of(program):
    """The names of a program that has no faults of names."""
    if not is_program(program):
        raise NoProgram()
    scopes = Scopes(program)
    if scopes.faults:
        _, word, name = scopes.faults[0]
        raise BadNames(word, name)
    return scopes


def place_of(scopes, name, code, at):
    """Where a code finds a variable, or, for None, the top name."""
    if at is None:
        return ("top", name)
    variable = scopes.variables[at]
    if variable.code != code:
        return ("seen", scopes.codes[code].captured[at])
    return ("cell" if variable.is_celled else "slot", variable.slot)


def called_anew(program):
    """The program in which local variables but this are called v0, v1, .. as they stand."""
    scopes = scopes_of(program)
    new_names = names_anew(scopes)
    found = []
    for deed, name, _, variable in scopes.met:
        if deed not in KEYS_SIGHTED:
            found.append(name if variable is None else new_names[variable])
    # A name that is taken is taken off the list's end.
    return with_names("program", program, found[::-1])


def names_anew(scopes):
    """The new names of all variables; this keeps its own."""
    found = []
    number = 0
    for variable in scopes.variables:
        if variable.name == "this":
            found.append(variable.name)
        else:
            while "v" + str(number) in scopes.top_names:
                number += 1
            found.append("v" + str(number))
            number += 1
    return found


def with_names(sort, part, waiting):
    """A part of a tree in which other names stand in the place of its own, which are taken off the list's end."""
    if sort == "name" or sort == "elder" and part is not None:
        return waiting.pop()
    if not isinstance(part, tuple):
        return part
    if sort in ROWS:
        return tuple([with_names(ROWS[sort], inner, waiting) for inner in part])
    if sort == "method":
        return tuple([with_names(inner, at, waiting) for inner, at in zip(METHOD, part)])
    shape = shape_of(sort, part[0])
    return (part[0], *[with_names(inner, at, waiting) for inner, at in zip(shape, part[1:])])


def are_alike(one, other):
    """Whether two programs differ in the names of local variables alone."""
    return called_anew(one) == called_anew(other)
