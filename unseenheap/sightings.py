"""The names of a program as they stand in its text, with what opens and closes around them.

A sighting is a pair (deed, name). Those with the deeds below, but for the silent ones, stand for one word of the
text each: a name, or one of the keys this, super, break, continue, return.
"""

from unseenheap.forms import shape_within

SILENT = (
    "open class", "close class", "open code", "open method", "close code", "open block", "close block", "there",
    "open loop", "close loop",
)
# What is done with the name just behind a word at the head of a node; other names are words alone.
NAMED = {"name": "use", "var": "var", "new": "new"}
KEYED = {"this": "this", "up": "super", "break": "break", "continue": "continue", "return": "return"}


def sightings(program):
    """The list of the sightings of a program, as they stand."""
    waiting = list(program[::-1])
    found = []
    while waiting:
        part = waiting.pop()
        if part[0] == "sight":
            found.append((part[1], part[2]))
        else:
            waiting.extend(spread(part)[::-1])
    return found


def sight(deed, name=""):
    """A sighting that waits among the nodes."""
    return ("sight", deed, name)


def spread(node):
    """The sightings and the nodes just within a node, as they stand."""
    word = node[0]
    if word == "class":
        return spread_class(node)
    if word == "method":
        _, name, params, block = node
        return [sight("method", name), sight("open method", name), *spread_code(params, block)]
    if word == "function":
        _, name, params, block = node
        return [sight("function", name), sight("open code", name), *spread_code(params, block)]
    if word == "fun":
        return [sight("open code", "fun"), *spread_code(node[1], node[2])]
    if word == "try":
        _, block, name, other = node
        return [*spread_block([], block), *spread_block([sight("catch", name)], other)]
    if word == "while":
        return [sight("open loop"), *spread_by_shape(node), sight("close loop")]
    if word == "var":
        return [*spread_by_shape(node), sight("there", node[1])]
    return spread_by_shape(node)


def spread_class(node):
    """As spread, of a class."""
    _, name, elder, fields, methods = node
    found = [sight("class", name), sight("open class", name)]
    if elder is not None:
        found.append(sight("elder", elder))
    found.extend([sight("field", field) for field in fields])
    found.extend([("method", *method) for method in methods])
    return [*found, sight("close class", name)]


def spread_code(params, block):
    """What stands in a code that is open; its parameters and its block's vars are one place."""
    return [*[sight("param", name) for name in params], *block, sight("close code")]


def spread_block(ahead, block):
    """A block with what is made ahead of its first statement."""
    return [sight("open block"), *ahead, *block, sight("close block")]


def spread_by_shape(node):
    """As spread, of a node the parts of which stand in the text as they do in the tree."""
    word = node[0]
    found = [sight(KEYED[word], KEYED[word])] if word in KEYED else []
    for sort, part in zip(shape_within(word), node[1:]):
        if sort == "e" or sort == "place":
            found.append(part)
        elif sort == "args":
            found.extend(part)
        elif sort == "block":
            found.extend(spread_block([], part))
        elif sort == "name":
            found.append(sight(NAMED.get(word, "word"), part))
    return found
