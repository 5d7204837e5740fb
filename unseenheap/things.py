"""Things that never go."""


class Thing:
    """A thing: head is an object's class or a function's code; parts are a text's signs, or values."""

    def __init__(self, sort_name, head, parts):
        self.sort_name = sort_name
        self.head = head
        self.parts = parts


class Things:
    """All things that were made, in the order in which they were."""

    def __init__(self):
        self.made_ones = []

    def make_thing(self, sort, head, parts):
        """Make a thing; its value."""
        self.made_ones.append(Thing(sort, head, parts))
        return ("thing", len(self.made_ones))

    def thing_of(self, value):
        """The thing that a value is."""
        return self.made_ones[value[1] - 1]

    def sort_of(self, value):
        """The sort of the thing that a value is, "" if it is none."""
        return self.thing_of(value).sort_name if value[0] == "thing" else ""

    def reached(self, values):
        """The numbers of the things that can be come to from values by things that are no ties."""
        waiting = [value for value in values if value[0] == "thing"]
        found = {}
        while waiting:
            value = waiting.pop()
            if value[1] not in found:
                found[value[1]] = True
                if self.thing_of(value).sort_name not in ("text", "tie"):
                    waiting.extend([part for part in self.thing_of(value).parts if part[0] == "thing"])
        return found

    def sweep(self, values):
        """Give nil to each tie that is reached and has a thing that is not."""
        found = self.reached(values)
        for number in found:
            thing = self.made_ones[number - 1]
            if thing.sort_name == "tie" and thing.parts[0][0] == "thing" and thing.parts[0][1] not in found:
                thing.parts[0] = ("nil",)
