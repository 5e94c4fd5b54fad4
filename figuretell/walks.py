"""Walks, objects that go from place to place by figures, and the machines that are grown from them."""

from figuretell.errors import TooGreat
from figuretell.figures import power_of
from figuretell.machines import rooms_leading_to, rooms_with


class Walk:
    """One place, None, with the sign 0; what other walks stand under."""

    def begin(self):
        return None

    def step(self, place, figure):
        return None

    def sign(self, place):
        return 0


class Reading(Walk):
    """Goes through a machine's rooms."""

    def __init__(self, machine):
        self.rows = machine[1]
        self.signs = machine[2]

    def begin(self):
        return 0

    def step(self, place, figure):
        return self.rows[place][figure]

    def sign(self, place):
        return self.signs[place]


class Pairing(Walk):
    """Goes two walks at once; the sign is made of theirs by a rule."""

    def __init__(self, one, other, rule):
        self.one = one
        self.other = other
        self.rule = rule

    def begin(self):
        return (self.one.begin(), self.other.begin())

    def step(self, place, figure):
        return (self.one.step(place[0], figure), self.other.step(place[1], figure))

    def sign(self, place):
        rule = self.rule
        return rule(self.one.sign(place[0]), self.other.sign(place[1]))


class Narrowing(Walk):
    """Goes as a walk does, but takes no notice of the figures' part at a place."""

    def __init__(self, walk, base, at):
        self.walk = walk
        self.base = base
        self.below = power_of(base, at)

    def begin(self):
        return self.walk.begin()

    def step(self, place, figure):
        return self.walk.step(place, without_part(figure, self.base, self.below))

    def sign(self, place):
        return self.walk.sign(place)


class Choosing(Walk):
    """Goes through all the rooms at once to which a machine comes, whatever the figures' part at a place is."""

    def __init__(self, machine, base, at):
        self.rows = machine[1]
        self.base = base
        self.below = power_of(base, at)
        self.winning = rooms_leading_to(machine, rooms_with(machine, 1), parts_alone(base, self.below))

    def begin(self):
        return (0,)

    def step(self, place, figure):
        reached = []
        for part in range(self.base):
            whole = with_part(figure, self.base, self.below, part)
            reached.extend([self.rows[here][whole] for here in place])
        return tuple(sorted(set(reached)))

    def sign(self, place):
        return 1 if any([here in self.winning for here in place]) else 0


# In these, below is base ** at: how many figures there are whose parts from the place at on are all 0.


def without_part(figure, base, below):
    return figure % below + below * (figure // (below * base))


def with_part(figure, base, below, part):
    return figure % below + below * part + below * base * (figure // below)


def parts_alone(base, below):
    return [below * part for part in range(base)]


def grown(walk, wide, most=200):
    begin = walk.begin()
    numbers = {begin: 0}
    rows = []
    level = [begin]
    while level:
        fresh = []
        for place in level:
            row = []
            for figure in range(wide):
                there = walk.step(place, figure)
                number = numbers.get(there)
                if number is None:
                    number = len(numbers)
                    if number >= most:
                        raise TooGreat(most)
                    numbers[there] = number
                    fresh.append(there)
                row.append(number)
            rows.append(tuple(row))
        level = fresh
    return (wide, tuple(rows), tuple([walk.sign(place) for place in numbers]))
