"""Heaps told a second time, apart from the package.

HeapModel tells what a heap means; LyingModel tells what lies where in a bound heap, with things as objects that know
where they lie, so that it moves none by its words.
"""

NIL = 3
SORTS = ["text", "list", "object", "function", "cell", "tie"]


class HeapModel:
    """Things by their numbers: [sort, worths]; handles with worths."""

    def __init__(self):
        self.things, self.handles, self.next, self.last = {}, {}, 0, 0

    def give(self, worth):
        self.handles[self.next] = worth
        self.next += 1
        return self.next - 1

    def worth(self, item):
        return self.handles[item[1]] if item[0] == "held" else item

    def make(self, sort, items):
        self.last += 1
        self.things[self.last] = [sort, [self.worth(item) for item in items]]
        return self.give(("thing", self.last))

    def thing(self, handle):
        return self.things[self.handles[handle][1]]

    def read(self, handle, place):
        return self.give(self.thing(handle)[1][place])

    def write(self, handle, place, item):
        self.thing(handle)[1][place] = self.worth(item)

    def follow(self, through_ties):
        found, waiting = set(), [worth[1] for worth in self.handles.values() if worth[0] == "thing"]
        while waiting:
            number = waiting.pop()
            if number not in found:
                found.add(number)
                sort, worths = self.things[number]
                if through_ties or sort != "tie":
                    waiting += [worth[1] for worth in worths if worth[0] == "thing"]
        return found

    def living(self):
        return tuple(sorted(self.follow(True)))

    def reached(self):
        return tuple(sorted(self.follow(False)))

    def filled(self):
        return sum(len(self.things[number][1]) + 2 for number in self.living())

    def sweep(self):
        reached = self.reached()
        found = []
        for number in reached:
            sort, worths = self.things[number]
            if sort == "tie" and worths[0][0] == "thing" and worths[0][1] not in reached:
                worths[0] = ("word", NIL)
                found.append(number)
        return tuple(found)

    def meaning(self):
        return (tuple(sorted(self.handles.items())),
                tuple((number, self.things[number][0], tuple(self.things[number][1])) for number in self.living()))

    def way(self, number):
        ways = {}
        for handle, worth in sorted(self.handles.items()):
            if worth[0] == "thing":
                ways.setdefault(worth[1], (handle,))
        level = dict(ways)
        while level:
            after = {}
            for at, way in level.items():
                for place, worth in enumerate(self.things[at][1]):
                    if worth[0] == "thing" and worth[1] not in ways:
                        longer = (*way, place)
                        after[worth[1]] = min(after.get(worth[1], longer), longer)
            ways.update(after)
            level = after
        return ways.get(number)

    def holders(self, number):
        found = [(0, handle) for handle, worth in self.handles.items() if worth == ("thing", number)]
        for at in self.living():
            found += [(at, place) for place, worth in enumerate(self.things[at][1]) if worth == ("thing", number)]
        return sorted(found)

    def image(self):
        def told(worth):
            return ("t" if worth[0] == "thing" else "w") + str(worth[1])
        handles, things = self.meaning()
        lines = [f"last {self.last}"] + [f"hold {handle} {told(worth)}" for handle, worth in handles]
        lines += [" ".join(["thing", str(number), sort, *map(told, worths)]) for number, sort, worths in things]
        return "".join(line + "\n" for line in lines)


class Lying:
    """A thing, or the elder copy of one: its words are integers, or things in the stead of addresses."""

    def __init__(self, number, sort, words):
        self.number, self.sort, self.words = number, sort, words
        self.address, self.moved_to = None, None

    def takes(self):
        return len(self.words) + 2


class Full(Exception):
    pass


class LyingModel:
    """A bound heap: the things of the nursery, of the half in use, and of the half that is being left."""

    def __init__(self, room):
        self.room = room
        self.young, self.used, self.left_ones = [], [], []
        self.use, self.looked, self.left, self.copied, self.last = 0, 0, 0, 0, 0
        self.remembered, self.handles, self.next = [], {}, 0
        self.counts = [0] * 5

    # where things lie

    def begin(self, half):
        return self.room.young + half * self.room.old

    def top(self):
        return sum(thing.takes() for thing in self.young)

    def free(self):
        return self.begin(self.use) + sum(thing.takes() for thing in self.used)

    def scan(self):
        return self.begin(self.use) + sum(thing.takes() for thing in self.used[:self.looked])

    def taken(self):
        return self.free() - self.begin(self.use) + self.top() + self.left - self.copied

    # copying

    def copy(self, thing):
        if thing.moved_to is None:
            thing.moved_to = Lying(thing.number, thing.sort, list(thing.words))
            thing.moved_to.address = self.free()
            self.used.append(thing.moved_to)
            if thing in self.left_ones:
                self.copied += thing.takes()
        return thing.moved_to

    def led(self, word, left):
        """A word that leads to where the thing is copied, if it is one of those that are left."""
        return self.copy(word) if isinstance(word, Lying) and any(word is thing for thing in left) else word

    def lead_handles(self, left):
        for handle in sorted(self.handles):
            self.handles[handle] = self.led(self.handles[handle], left)

    def look_at(self, thing, left):
        for place in range(len(thing.words)):
            thing.words[place] = self.led(thing.words[place], left)

    def gather(self):
        self.counts[0] += 1
        young, first = list(self.young), len(self.used)
        self.lead_handles(young)
        for thing, place in list(self.remembered):
            thing.words[place] = self.led(thing.words[place], young)
        at = first
        while at < len(self.used):
            self.look_at(self.used[at], young)
            at += 1
        self.young, self.remembered = [], []
        if not self.left:
            self.looked = len(self.used)
        return len(self.used) - first

    def turn(self):
        if self.left:
            return 0
        self.gather()
        self.counts[1] += 1
        self.left_ones, self.used = self.used, []
        self.left, self.copied, self.looked = sum(thing.takes() for thing in self.left_ones), 0, 0
        self.use = 1 - self.use
        self.lead_handles(self.left_ones)
        self.end_if_done()
        return 1

    def end_if_done(self):
        if self.looked == len(self.used):
            self.left_ones, self.left, self.copied = [], 0, 0

    def steps(self, many):
        looked = 0
        while self.left and looked < many:
            self.look_at(self.used[self.looked], self.left_ones)
            self.looked += 1
            looked += 1
            self.end_if_done()
        self.counts[2] += looked
        return looked

    def all_over(self, through_ties):
        """Copy what is come to out of the nursery and the half in use."""
        while self.left:
            self.steps(1)
        elder = self.young + self.used
        self.use, self.used = 1 - self.use, []
        self.lead_handles(elder)
        at = 0
        while at < len(self.used):
            if through_ties or self.used[at].sort != "tie":
                self.look_at(self.used[at], elder)
            at += 1
        self.young, self.remembered, self.looked = [], [], len(self.used)

    def whole(self):
        self.all_over(True)
        self.counts[3] += 1
        return sum(thing.takes() for thing in self.used)

    def sweep(self):
        self.all_over(False)
        self.counts[4] += 1
        found = []
        for thing in self.used:
            if thing.sort == "tie" and isinstance(thing.words[0], Lying):
                if thing.words[0].moved_to is None:
                    found.append(thing.number)
                    thing.words[0] = NIL
                else:
                    thing.words[0] = thing.words[0].moved_to
        return tuple(sorted(found))

    # what is done by handles

    def give(self, word):
        self.handles[self.next] = word
        self.next += 1
        return self.next - 1

    def word(self, item):
        return self.handles[item[1]] if item[0] == "held" else item[1]

    def make(self, sort, items):
        takes = len(items) + 2
        if self.taken() + takes > self.room.old:
            while self.left:
                self.steps(1)
        if self.taken() + takes > self.room.old:
            self.whole()
        if self.taken() + takes > self.room.old:
            raise Full()
        is_young = takes <= self.room.young
        if is_young and self.top() + takes > self.room.young:
            self.gather()
        self.last += 1
        thing = Lying(self.last, sort, [self.word(item) for item in items])
        if is_young:
            thing.address = self.top()
            self.young.append(thing)
        else:
            thing.address = self.free()
            self.used.append(thing)
            for place, word in enumerate(thing.words):
                self.remember(thing, place, word)
            if not self.left:
                self.looked = len(self.used)
        if self.left:
            self.steps(self.room.pace)
        return self.give(thing)

    def remember(self, thing, place, word):
        if any(word is young for young in self.young) and not any(thing is young for young in self.young):
            if not any(thing is other and place == at for other, at in self.remembered):
                self.remembered.append((thing, place))

    def read(self, handle, place):
        thing = self.handles[handle]
        thing.words[place] = self.led(thing.words[place], self.left_ones)
        return self.give(thing.words[place])

    def write(self, handle, place, item):
        thing = self.handles[handle]
        thing.words[place] = self.word(item)
        self.remember(thing, place, thing.words[place])

    # what is told

    def told(self, word):
        return 8 * word.address if isinstance(word, Lying) else word

    def parts(self):
        """The parts of the layout but its words."""
        remembered = tuple(thing.address + 2 + place for thing, place in self.remembered)
        roots = tuple((handle, self.told(self.handles[handle])) for handle in sorted(self.handles))
        return (self.room, self.use, self.free(), self.scan(), self.top(), self.left, self.copied, remembered, roots, self.last)

    def words(self):
        """Pairs (address, words from there on) of all that is not free; of copied things the number alone is told,
        with the head, as their own words are nowhere told."""
        found = []
        for thing in self.young + self.used:
            head = 8 * len(thing.words) + SORTS.index(thing.sort)
            found.append((thing.address, [head, thing.number, *map(self.told, thing.words)]))
        for thing in self.left_ones:
            if thing.moved_to is None:
                head = 8 * len(thing.words) + SORTS.index(thing.sort)
                found.append((thing.address, [head, thing.number, *map(self.told, thing.words)]))
            else:
                found.append((thing.address, [-1 - thing.moved_to.address, thing.number]))
        return found
