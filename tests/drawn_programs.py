"""Programs drawn by chance that have no faults of names, and do something when they run.

Expressions are drawn for a kind of value, so that most of what is done can be; some are of another kind on purpose.
"""

import random

KINDS = ["int", "text", "list", "bool", "fun", "obj", "tie", "thread"]
POOL = ["a", "b", "c", "d", "k", "v0", "v1"]
FIELDS = ["x", "y", "z"]
METHODS = ["init", "m", "get"]


class Drawer:
    """One program's chances; blocks has, for each block that is open, its names with the kinds of their values."""

    def __init__(self, seed):
        self.chance = random.Random(seed)
        self.blocks = []
        self.classes = []
        self.tops = {}
        self.in_method = None
        self.loops = 0
        self.in_fun = False
        self.left = self.chance.randrange(20, 90)

    def pick(self, *ways):
        return self.chance.choice(ways)()

    def maybe(self, part):
        return self.chance.random() < part

    # names

    def visible(self, kind):
        found = {name: sort for name, sort in self.tops.items()}
        for block in self.blocks:
            found.update(block)
        return [name for name, sort in found.items() if sort == kind]

    def free_name(self):
        names = [name for name in POOL if name not in self.blocks[-1]]
        return self.chance.choice(names) if names else None

    # programs

    def program(self):
        for at in range(self.chance.randrange(3)):
            self.tops[f"f{at}"] = "fun"
        for at in range(self.chance.randrange(4)):
            self.tops[self.chance.choice(["g", "h", "v2", "t"]) + str(at)] = self.chance.choice(KINDS)
        for at in range(self.chance.randrange(3)):
            self.classes.append((f"C{at}", self.chance.randrange(at) if at and self.maybe(0.6) else None))
        items = [self.klass(at) for at in range(len(self.classes))]
        rest = []
        for name, kind in self.tops.items():
            if name[0] == "f":
                rest.append(self.function(name))
            else:
                rest.append(("var", name, self.e(kind, 3)))
        for _ in range(self.chance.randrange(2, 7)):
            rest.append(self.guarded(lambda: self.statement(4)))
        if self.maybe(0.3):
            self.chance.shuffle(rest)
        return tuple(items + rest)

    def guarded(self, maker):
        if self.maybe(0.2):
            return maker()
        self.blocks.append({})
        block = tuple(self.statement(3) for _ in range(self.chance.randrange(1, 4)))
        self.blocks.pop()
        return ("try", block, "e", (("say", ("name", "e")),))

    def klass(self, at):
        name, elder = self.classes[at]
        taken = set()
        up = elder
        while up is not None:
            taken.update(self.fields_of[up])
            up = self.classes[up][1]
        fields = tuple(field for field in FIELDS if field not in taken and self.maybe(0.5))
        self.__dict__.setdefault("fields_of", {})[at] = fields
        methods = []
        for method in METHODS:
            if self.maybe(0.6):
                self.in_method = (at, elder)
                params = ("a",) if method != "get" else ()
                methods.append((method, params, self.body({p: "int" for p in params})))
                self.in_method = None
        self.chance.shuffle(methods)
        return ("class", name, None if elder is None else self.classes[elder][0], fields, tuple(methods))

    def function(self, name):
        return ("function", name, ("n",), self.body({"n": "int"}))

    def body(self, params):
        saved = self.blocks, self.loops, self.in_fun
        self.blocks, self.loops, self.in_fun = [*self.blocks, dict(params)], 0, True
        found = [self.statement(2) for _ in range(self.chance.randrange(3))]
        if self.maybe(0.8):
            found.append(("return", self.e(self.chance.choice(KINDS[:4]), 2)))
        self.blocks, self.loops, self.in_fun = saved
        return tuple(found)

    def block(self, most, names=()):
        self.blocks.append({name: "any" for name in names})
        found = tuple(self.statement(most) for _ in range(self.chance.randrange(3)))
        self.blocks.pop()
        return found

    # statements

    def statement(self, most):
        self.left -= 1
        if most <= 1 or self.left < 0:
            return ("say", self.e("int", 2))
        kind = self.chance.choice(KINDS)
        roll = self.chance.randrange(14)
        if roll < 3 and self.blocks and self.free_name():
            name = self.free_name()
            value = self.e(kind, most)
            self.blocks[-1][name] = kind
            return ("var", name, value)
        if roll < 5 and self.visible(kind):
            return ("set", ("name", self.chance.choice(self.visible(kind))), self.e(kind, most))
        if roll == 5:
            return ("if", self.e("bool", most), self.block(most - 1), self.block(most - 1))
        if roll == 6 and self.blocks and self.free_name():
            return self.loop(most)
        if roll == 7:
            return ("try", self.block(most - 1), "e", self.block(most - 1, ["e"]))
        if roll == 8:
            return self.pick(
                lambda: ("set", ("item", self.e("list", most), self.e("int", 1)), self.e(kind, most)),
                lambda: ("set", ("field", self.e("obj", most), self.chance.choice(FIELDS)), self.e(kind, most)),
            )
        if roll == 9 and self.maybe(0.4):
            return ("throw", self.e(kind, most))
        if roll == 9 and self.loops:
            return ("if", self.e("bool", 2), (self.chance.choice([("break",), ("continue",)]),), ())
        if roll == 9 and self.in_fun:
            return ("if", self.e("bool", 2), (("return", self.e(kind, 2)),), ())
        if roll == 10:
            return ("do", self.e("any", most))
        return ("say", self.e(kind, most))

    def loop(self, most):
        name = self.free_name()
        counter = ("name", name)
        self.blocks.append({name: "counter"})
        self.loops += 1
        inner = (("set", counter, ("+", counter, ("number", 1))), *self.block(most - 1))
        self.loops -= 1
        self.blocks.pop()
        look = ("<", counter, ("number", self.chance.randrange(1, 4)))
        return ("if", ("true",), (("var", name, ("number", 0)), ("while", look, inner)), ())

    # expressions

    def e(self, kind, most):
        if kind == "any" or self.maybe(0.06):
            kind = self.chance.choice(KINDS)
        if self.maybe(0.3) and self.visible(kind):
            return ("name", self.chance.choice(self.visible(kind)))
        if self.maybe(0.05) and self.visible("any"):
            return ("name", self.chance.choice(self.visible("any")))
        if self.maybe(0.06):
            return (self.chance.choice(["and", "or"]), self.e("any", most - 1), self.e(kind, most - 1)) \
                if most > 1 else ("nil",)
        return getattr(self, "e_" + kind)(most - 1)

    def e_int(self, most):
        if most <= 0:
            return ("number", self.chance.choice([0, 1, 2, 3, 5, 2 ** 59 - 1]))
        return self.pick(
            lambda: ("number", self.chance.randrange(4)),
            lambda: (self.chance.choice(["+", "-", "*", "/", "mod"]), self.e("int", most), self.e("int", most)),
            lambda: ("minus", self.e("int", most)),
            lambda: ("ask", "len", (self.e(self.chance.choice(["text", "list"]), most),)),
            lambda: ("ask", "number", (self.e("any", most),)),
            lambda: ("item", self.e("list", most), self.e("int", 1)),
            lambda: ("call", self.e("fun", most), (self.e("int", most),)),
            lambda: ("send", self.e("obj", most), self.chance.choice(METHODS[:2]), (self.e("int", most),)),
            lambda: ("field", self.e("obj", most), self.chance.choice(FIELDS)),
            lambda: ("ask", "join", (self.e("thread", most),)),
            lambda: self.upward(most),
        )

    def upward(self, most):
        if self.in_method is not None and self.in_method[1] is not None:
            return ("up", self.chance.choice(METHODS), (self.e("int", most),) if self.maybe(0.7) else ())
        return ("number", 1)

    def e_text(self, most):
        if most <= 0:
            return ("text", self.chance.choice(["", "a", "bc", "a b"]))
        return self.pick(
            lambda: ("text", self.chance.choice(["", "a", "bc", "a b"])),
            lambda: ("+", self.e("text", most), self.e("text", most)),
            lambda: ("item", self.e("text", most), self.e("int", 1)),
        )

    def e_list(self, most):
        if most <= 0:
            return ("list", ())
        return self.pick(
            lambda: ("list", tuple(self.e("any", most) for _ in range(self.chance.randrange(4)))),
            lambda: ("+", self.e("list", most), self.e("list", most)),
            lambda: ("ask", "worth", (self.e("tie", most),)),
        )

    def e_bool(self, most):
        if most <= 0:
            return (self.chance.choice(["true", "false", "nil"]),)
        kind = self.chance.choice(["int", "int", "text"])
        return self.pick(
            lambda: (self.chance.choice(["<", "<=", ">", ">="]), self.e(kind, most), self.e(kind, most)),
            lambda: (self.chance.choice(["==", "!="]), self.e("any", most), self.e("any", most)),
            lambda: (self.chance.choice(["==", "!="]), self.e(kind, most), self.e(kind, most)),
            lambda: ("not", self.e("bool", most)),
        )

    def e_fun(self, most):
        if most <= 1:
            return ("fun", ("p",), (("return", ("name", "p")),))
        params = ("p",) if self.maybe(0.9) else ()
        return ("fun", params, self.body({p: "int" for p in params}))

    def e_obj(self, most):
        if self.in_method is not None and self.maybe(0.6):
            return ("this",)
        if not self.classes:
            return ("list", ())
        name = self.chance.choice(self.classes)[0]
        return ("new", name, (self.e("int", most),) if self.maybe(0.6) else ())

    def e_tie(self, most):
        return ("ask", "weak", (self.e(self.chance.choice(["list", "list", "obj", "fun", "tie"]) if most > 0 else "list", most),))

    def e_thread(self, most):
        saved = self.maybe(0.3)
        body = self.body({})
        return ("ask", "spawn", (("fun", (), ((("do", ("ask", "yield", ())),) if not saved else ()) + body),))


def drawn(seed):
    """A program without faults of names."""
    return Drawer(seed).program()


def drawn_moments(seed, most=60):
    """Some moments."""
    chance = random.Random(seed)
    ticks = sorted(chance.randrange(1, most) for _ in range(chance.randrange(12)))
    deeds = ["switch", "switch", "sweep", "sweep", "young", "turn", "whole", ("steps", chance.randrange(5))]
    return tuple((tick, chance.choice(deeds)) for tick in ticks)
