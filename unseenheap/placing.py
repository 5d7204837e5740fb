"""Programs with places in the stead of names, ready to be run by their trees or compiled.

In the tree of a placed program a variable stands as its place: ("slot", i), ("cell", i), ("seen", i) or ("top", k),
k being the number of a top name. ("this", place), ("up", place, class, name, args), ("new", class, args),
("fun", code) and ("text", k) tell numbers likewise; all else stands as it does in a program's tree.
"""

from unseenheap.forms import shape_within
from unseenheap.names import place_of

MADE_OR_MET = ("use", "this", "super", "var", "catch")
NAMING = ("name", "var", "try")


class PlacedCode:
    """A code: cells tells for each slot whether it is in a cell, captured the places of the cells that it keeps."""

    def __init__(self, name, many, cells, captured):
        self.name = name
        self.many = many
        self.cells = cells
        self.captured = captured
        self.block = ()


class Placed:
    """A program without faults of names, with places in the stead of names.

    Classes are as those of a unit: tuples (name, number of the elder or None, own fields, methods).
    """

    def __init__(self, program, scopes):
        self.scopes = scopes
        self.met = [record for record in scopes.met if record[0] in MADE_OR_MET]
        self.met_ahead = 0
        self.texts = {}
        self.codes = []
        self.tops = []
        self.classes = []
        self.class_open = None
        self.top_numbers = numbered([item[1] for item in program if item[0] in ("function", "var")])
        self.class_numbers = numbered([item[1] for item in program if item[0] == "class"])
        self.add_top(program)

    def add_top(self, program):
        """Place all codes; code 0 is what stands in none of the others."""
        self.add_code()
        block = []
        for item in program:
            if item[0] == "class":
                self.add_class(item)
            elif item[0] == "function":
                self.tops.append((item[1], self.place_code(item[3])))
            else:
                if item[0] == "var":
                    self.tops.append((item[1], None))
                block.append(self.place_node(item))
        self.codes[0].block = tuple(block)

    def add_class(self, item):
        """Place the methods of a class."""
        _, name, elder, fields, methods = item
        self.class_open = self.class_numbers[name]
        found = [(method, self.place_code(block)) for method, _, block in methods]
        number = None if elder is None else self.class_numbers[elder]
        self.classes.append((name, number, fields, tuple(sorted(found))))

    def add_code(self):
        """Begin with the next code; its number."""
        names = self.scopes.codes[len(self.codes)]
        cells = tuple([self.scopes.variables[at].is_celled for at in names.made_here])
        self.codes.append(PlacedCode(names.name, names.many, cells, tuple([place for _, place in names.places])))
        return len(self.codes) - 1

    def place_code(self, block):
        """Place the next code; its number."""
        number = self.add_code()
        self.codes[number].block = self.place_all(block)
        return number

    def place_all(self, nodes):
        """Place nodes one by one."""
        return tuple([self.place_node(node) for node in nodes])

    def place_next(self):
        """The place of the next variable that is made, read or set."""
        _, name, code, variable = self.met[self.met_ahead]
        self.met_ahead += 1
        word, at = place_of(self.scopes, name, code, variable)
        return (word, self.top_numbers[name] if word == "top" else at)

    def place_node(self, node):
        """Place a statement or an expression."""
        word = node[0]
        if word == "fun":
            return ("fun", self.place_code(node[2]))
        if word == "text":
            return ("text", self.texts.setdefault(node[1], len(self.texts)))
        found = [word]
        if word == "this" or word == "up":
            found.append(self.place_next())
        if word == "up":
            found.append(self.class_open)
        for sort, part in zip(shape_within(word), node[1:]):
            found.append(self.place_part(word, sort, part))
        return tuple(found)

    def place_part(self, word, sort, part):
        """Place what stands behind a word at the head of a node."""
        if sort == "e" or sort == "place":
            return self.place_node(part)
        if sort == "args" or sort == "block":
            return self.place_all(part)
        if sort == "name" and word in NAMING:
            return self.place_next()
        if sort == "name" and word == "new":
            return self.class_numbers[part]
        return part


def numbered(found):
    """Names with their numbers, as they stand."""
    return {name: number for number, name in enumerate(found)}
