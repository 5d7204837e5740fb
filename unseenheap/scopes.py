"""What each name of a program means, and its faults of names.

The sightings are taken one by one, as they stand. Variables have numbers, as they are made.
"""

from unseenheap.sightings import SILENT, sightings


class Variable:
    """A local variable: its slot in the code that makes it."""

    def __init__(self, name, code, slot):
        self.name = name
        self.code = code
        self.slot = slot
        self.is_celled = False


class CodeNames:
    """What a code makes and captures; captured tells the rank of each variable, by its number."""

    def __init__(self, name):
        self.name = name
        self.many = 0
        self.made_here = []
        self.captured = {}
        self.places = []


class Scopes:
    """The names of a program: met has (deed, name, code, number of a variable or None) for each word."""

    def __init__(self, program):
        self.class_names = {item[1]: True for item in program if item[0] == "class"}
        self.top_names = {item[1]: True for item in program if item[0] in ("function", "var")}
        self.tops_ahead = {}
        self.classes_ahead = {}
        self.class_name = ""
        self.has_elder = False
        self.fields_taken = {}
        self.methods_taken = {}
        self.variables = []
        self.codes = [CodeNames("top")]
        self.open_codes = [0]
        self.loops = [0]
        self.blocks = []
        self.taken = []
        self.met = []
        self.faults = []
        for deed, name in sightings(program):
            handler = DEEDS[deed]
            variable = handler(self, name)
            if deed not in SILENT:
                self.met.append((deed, name, self.open_codes[-1], variable))

    def fault(self, word, name):
        """Keep a fault, with the place in met of the word that is looked at."""
        self.faults.append((len(self.met), word, name))

    def fault_if_twice(self, name, ahead):
        """Take a name for a place, in which it may stand once."""
        if name in ahead:
            self.fault("twice", name)
        ahead[name] = True

    def add_variable(self, name):
        """Make a local variable of the code that is open; its number."""
        code = self.codes[self.open_codes[-1]]
        self.variables.append(Variable(name, self.open_codes[-1], len(code.made_here)))
        code.made_here.append(len(self.variables) - 1)
        return len(self.variables) - 1

    def add_to_block(self, name):
        """Make a local variable in the block that is open; it is not there yet."""
        if name in self.taken[-1]:
            self.fault("twice", name)
        self.taken[-1][name] = self.add_variable(name)
        return self.taken[-1][name]

    def innermost(self, name):
        """The number of the innermost variable of a name that is there, or None."""
        for block in self.blocks[::-1]:
            if name in block:
                return block[name]
        return None

    def capture(self, at):
        """Read or set a variable: codes between the one that makes it and the open one capture it."""
        variable = self.variables[at]
        place = (0, variable.slot)
        for number in self.open_codes[self.open_codes.index(variable.code) + 1:]:
            variable.is_celled = True
            code = self.codes[number]
            if at not in code.captured:
                code.captured[at] = len(code.captured)
                code.places.append((variable.name, place))
            place = (1, code.captured[at])


def class_deed(scopes, name):
    """The name of a class; it stands ahead of others from its end on."""
    if name in scopes.classes_ahead:
        scopes.fault("twice", name)


def open_class(scopes, name):
    """Begin with a class."""
    scopes.class_name = name
    scopes.fields_taken = {}
    scopes.methods_taken = {}


def elder_deed(scopes, name):
    """The name of an elder; also where it is none, the class has one."""
    scopes.has_elder = True
    if name in scopes.classes_ahead:
        scopes.fields_taken = {field: True for field in scopes.classes_ahead[name]}
    else:
        scopes.fault("elder", name)


def close_class(scopes, name):
    """End with a class."""
    scopes.classes_ahead[name] = list(scopes.fields_taken)
    scopes.has_elder = False


def field_deed(scopes, name):
    """A field of a class."""
    scopes.fault_if_twice(name, scopes.fields_taken)


def method_deed(scopes, name):
    """The name of a method."""
    scopes.fault_if_twice(name, scopes.methods_taken)


def function_deed(scopes, name):
    """The name of a function at the top."""
    scopes.fault_if_twice(name, scopes.tops_ahead)


def open_code(scopes, name):
    """Begin with a code."""
    scopes.codes.append(CodeNames(name))
    scopes.open_codes.append(len(scopes.codes) - 1)
    scopes.loops.append(0)
    open_block(scopes, name)


def open_method(scopes, name):
    """Begin with a method's code, the first variable of which is this."""
    open_code(scopes, scopes.class_name + "." + name)
    param_deed(scopes, "this")


def close_code(scopes, name):
    """End with a code."""
    close_block(scopes, name)
    scopes.loops.pop()
    scopes.open_codes.pop()


def open_block(scopes, _):
    """Begin with a block."""
    scopes.blocks.append({})
    scopes.taken.append({})


def close_block(scopes, _):
    """End with a block."""
    scopes.blocks.pop()
    scopes.taken.pop()


def param_deed(scopes, name):
    """A parameter."""
    scopes.codes[scopes.open_codes[-1]].many += 1
    return catch_deed(scopes, name)


def catch_deed(scopes, name):
    """A variable that is there at once."""
    variable = scopes.add_to_block(name)
    there(scopes, name)
    return variable


def var_deed(scopes, name):
    """The name of a var, which is a top name where no block is around."""
    if scopes.blocks:
        return scopes.add_to_block(name)
    return function_deed(scopes, name)


def there(scopes, name):
    """A variable of the block that is open is there from now on."""
    if scopes.blocks:
        scopes.blocks[-1][name] = scopes.taken[-1][name]


def use_deed(scopes, name):
    """A name that is read or set."""
    variable = scopes.innermost(name)
    if variable is not None:
        scopes.capture(variable)
    elif name not in scopes.top_names:
        scopes.fault("unknown", name)
    return variable


def this_deed(scopes, name):
    """The key this, or super with an elder around, which are there in methods alone."""
    variable = scopes.innermost("this")
    if variable is None:
        scopes.fault(name, name)
    else:
        scopes.capture(variable)
    return variable


def super_deed(scopes, name):
    """The key super, which reads what this reads."""
    if scopes.has_elder:
        return this_deed(scopes, name)
    scopes.fault(name, name)
    return None


def new_deed(scopes, name):
    """The name of a class of which an object is made."""
    if name not in scopes.class_names:
        scopes.fault("class", name)


def open_loop(scopes, _):
    """Begin with a while."""
    scopes.loops[-1] += 1


def close_loop(scopes, _):
    """End with a while."""
    scopes.loops[-1] -= 1


def leave_deed(scopes, name):
    """The key break or continue."""
    if scopes.loops[-1] == 0:
        scopes.fault("loop", name)


def return_deed(scopes, name):
    """The key return."""
    if scopes.open_codes[-1] == 0:
        scopes.fault(name, name)


def word_deed(_scopes, _name):
    """A name that is looked for when the program runs."""


DEEDS = {
    "class": class_deed, "open class": open_class, "elder": elder_deed, "close class": close_class,
    "field": field_deed, "method": method_deed, "function": function_deed,
    "open code": open_code, "open method": open_method, "close code": close_code,
    "open block": open_block, "close block": close_block,
    "param": param_deed, "catch": catch_deed, "var": var_deed, "there": there,
    "use": use_deed, "this": this_deed, "super": super_deed, "new": new_deed, "word": word_deed,
    "open loop": open_loop, "close loop": close_loop,
    "break": leave_deed, "continue": leave_deed, "return": return_deed,
}
