"""Machines turned about, raised to powers of their wide and lowered again, and rows of signs grown by rules."""

from figuretell.errors import NoPower, TooWide
from figuretell.figures import is_whole_from, power_of
from figuretell.leasts import columns_of, least
from figuretell.machines import MOST_WIDE
from figuretell.walks import Walk, grown


class Turning(Walk):
    """A place tells for each room the sign that the machine comes to from there by what was read, backwards."""

    def __init__(self, machine):
        self.signs = machine[2]
        self.columns = columns_of(machine)

    def begin(self):
        return self.signs

    def step(self, place, figure):
        return tuple([place[there] for there in self.columns[figure]])

    def sign(self, place):
        return place[0]


def turned(machine, most=200):
    # Two places differ in some room's sign, and that room's lead, backwards, parts them;
    # so what is grown is least, and its rooms are as many as most asks about.
    return grown(Turning(least(machine)), machine[0], most)


def raised(machine, power):
    wide = power_of(machine[0], power)
    if wide > MOST_WIDE:
        raise TooWide("this power of the machine's wide is too wide")
    small = least(machine)
    rows = small[1]
    raised_rows = []
    for here in range(len(rows)):
        reached = [here]
        for turn in range(power):
            reached = read_on(rows, reached, machine[0])
        raised_rows.append(tuple(reached))
    return least((wide, tuple(raised_rows), small[2]))


def read_on(rows, reached, wide):
    # The figure that is read last is the highest one, so its rooms stand behind those of the lower ones.
    farther = []
    for figure in range(wide):
        farther.extend([rows[here][figure] for here in reached])
    return farther


class Lowering(Walk):
    """A place is a room, how many figures were read since the machine came there, and their number."""

    def __init__(self, machine, base, power):
        self.rows = machine[1]
        self.signs = machine[2]
        self.power = power
        self.weights = [power_of(base, long) for long in range(power)]

    def begin(self):
        return (0, 0, 0)

    def step(self, place, figure):
        here = place[0]
        long = place[1] + 1
        number = place[2] + self.weights[place[1]] * figure
        if long == self.power:
            return (self.rows[here][number], 0, 0)
        return (here, long, number)

    def sign(self, place):
        # Steady machines take no notice of the noughts that fill the group up.
        return self.signs[self.rows[place[0]][place[2]]]


def lowered(machine, base, most=200):
    power = power_between(base, machine[0])
    if power is None:
        raise NoPower("the machine's wide is no power of the base")
    return least(grown(Lowering(machine, base, power), base, most))


def power_between(base, wide):
    if not is_whole_from(base, 2):
        return None
    power = 1
    reached = base
    while reached < wide:
        power = power + 1
        reached = reached * base
    return power if reached == wide else None


def grown_row(rules, signs, long):
    wide = len(rules[0])
    kinds = [0]
    # The kinds that replace the n-th kind stand from the place n * wide on.
    for place in range(1, long):
        kinds.append(rules[kinds[place // wide]][place % wide])
    return tuple([signs[kind] for kind in kinds[:long]])
