"""Walks that go by the figures of several numbers side by side and tell of a sum of these with factors."""

from figuretell.figures import figures
from figuretell.machines import room
from figuretell.walks import Walk


def weight_of(factors, base, figure):
    weight = 0
    rest = figure
    for factor in factors:
        weight = weight + factor * (rest % base)
        rest = rest // base
    return weight


class Weighing(Walk):
    """A place is what the numbers' places that aren't read yet are to come to; what stands under it tells how."""

    def __init__(self, factors, goal, base):
        self.factors = tuple(factors)
        self.goal = goal
        self.base = base

    def begin(self):
        return self.goal

    def weight(self, figure):
        return weight_of(self.factors, self.base, figure)


class Meeting(Weighing):
    """Tells whether the sum is the goal."""

    def step(self, place, figure):
        if place is None:
            return None
        left = place - self.weight(figure)
        return left // self.base if left % self.base == 0 else None

    def sign(self, place):
        return 1 if place == 0 else 0


class Within(Weighing):
    """Tells whether the sum is at most the goal."""

    def step(self, place, figure):
        return (place - self.weight(figure)) // self.base

    def sign(self, place):
        return 1 if place >= 0 else 0


class Looking(Walk):
    """Tells the sign that a machine has at the sum and something more.

    A place is what is carried on to the sum's next figure, and the room to which the figures up to there lead.
    """

    def __init__(self, machine, factors, more, base):
        self.machine = machine
        self.factors = tuple(factors)
        self.more = more
        self.base = base

    def begin(self):
        return (self.more, 0)

    def step(self, place, figure):
        total = place[0] + weight_of(self.factors, self.base, figure)
        return (total // self.base, self.machine[1][place[1]][total % self.base])

    def sign(self, place):
        return self.machine[2][room(self.machine, figures(place[0], self.base), place[1])]
