"""Machines that several tests ask about, and plain ways to read them, by the words of the document."""

import itertools

# 1 where the count of ones is odd; steady.
ODD_ONES = (2, ((0, 1), (1, 0)), (0, 1))
# The rest by three, of a number read from the top; not steady, read from the bottom.
REST_OF_THREE = (2, ((0, 1), (2, 0), (1, 2)), (0, 1, 2))
# The sign of the first figure, of three, and one for no figure at all.
FIRST_FIGURE = (3, ((1, 2, 3), (1, 1, 1), (2, 2, 2), (3, 3, 3)), (9, 0, 1, 999999))
ONE_ROOM = (10, ((0,) * 10,), (7,))
ONE_FIGURE = (1, ((1,), (2,), (1,)), (5, 6, 6))
WIDEST = (1000, ((1,) * 999 + (0,), (0,) + (1,) * 999), (3, 4))
# Of two numbers in base 2, 1 where the second one is twice the first one; steady.
TWICE = (4, ((0, 1, 2, 2), (2, 2, 0, 1), (2, 2, 2, 2)), (1, 0, 0))
ALL = (ODD_ONES, REST_OF_THREE, FIRST_FIGURE, ONE_ROOM, ONE_FIGURE, WIDEST)
# From each room both figures lead on, and the last one alone has another sign: 1000 rooms.
LONG_WAY = (2, tuple((min(here + 1, 999), here) for here in range(1000)), (0,) * 999 + (1,))


def small_machines(wide, rooms, signs):
    rows = tuple(itertools.product(range(rooms), repeat=wide))
    for some_rows in itertools.product(rows, repeat=rooms):
        for some_signs in itertools.product(range(signs), repeat=rooms):
            yield (wide, some_rows, some_signs)


def numbers_below(seed):
    """A function that tells a number below a bound, each time another one, but in each run of the tests the same."""
    state = [seed]

    def below(bound):
        state[0] = (state[0] * 6364136223846793005 + 1442695040888963407) % 2 ** 64
        return (state[0] >> 33) % bound

    return below


def made_machines(many, wide, rooms, signs):
    """Machines without any plan, but in each run of the tests the same."""
    below = numbers_below(1000 * wide + 10 * rooms + signs)
    for turn in range(many):
        rows = tuple(tuple(below(rooms) for figure in range(wide)) for here in range(rooms))
        yield (wide, rows, tuple(below(signs) for here in range(rooms)))


def steadied(machine):
    """The machine with the figure 0 bent so that it leads from each room to one of the same sign."""
    wide, rows, signs = machine
    steady = []
    for here, row in enumerate(rows):
        alike = [there for there in range(len(rows)) if signs[there] == signs[here]]
        steady.append((alike[row[0] % len(alike)],) + row[1:])
    return (wide, tuple(steady), signs)


def steady_machines(many, wide, rooms, signs):
    for machine in made_machines(many, wide, rooms, signs):
        yield steadied(machine)


def plain_room(machine, row, start=0):
    places = [start]
    for figure in row:
        places.append(machine[1][places[-1]][figure])
    return places[-1]


def plain_told(machine, row):
    return machine[2][plain_room(machine, row)]


def plain_figures(number, wide):
    row = ()
    while number > 0:
        row += (number % wide,)
        number //= wide
    return row


def filled(row, long):
    """The row with noughts at its end so that it is at least that long."""
    return tuple(row) + (0,) * (long - len(row))


def parts_of(figure, base, many):
    return filled(plain_figures(figure, base), many)


def figure_of(parts, base):
    return sum(part * base ** at for at, part in enumerate(parts))


def without(parts, at):
    return tuple(parts[:at]) + tuple(parts[at + 1:])


def chosen_rooms(machine, base, many, at, rooms, figure):
    """Where Choosing goes, by its words: all figures of the machine are looked through."""
    reached = set()
    for whole in range(base ** many):
        if without(parts_of(whole, base, many), at) == parts_of(figure, base, many - 1):
            reached.update(machine[1][here][whole] for here in rooms)
    return tuple(sorted(reached))


def joint_figures(numbers, base):
    """The figures of the joint number, one for each place where one of the numbers has one."""
    rows = [plain_figures(number, base) for number in numbers]
    long = max([len(row) for row in rows], default=0)
    return tuple(figure_of(parts, base) for parts in zip(*[filled(row, long) for row in rows]))


def row_of(number, base, many):
    """The row of many numbers whose joint number it is."""
    figures = [parts_of(figure, base, many) for figure in plain_figures(number, base ** many)]
    return tuple(sum(parts[at] * base ** place for place, parts in enumerate(figures)) for at in range(many))


def joint_of(numbers, base):
    return sum(figure * base ** (len(numbers) * at) for at, figure in enumerate(joint_figures(numbers, base)))


def places_reached(begin, step, wide):
    """All the places to which rows of figures lead."""
    reached = {begin}
    waiting = [begin]
    while waiting:
        here = waiting.pop()
        for there in {step(here, figure) for figure in range(wide)} - reached:
            reached.add(there)
            waiting.append(there)
    return reached


def ring(rooms, signs):
    """A machine of the wide 1 that goes round through that many rooms, with the signs again and again."""
    rows = tuple(((here + 1) % rooms,) for here in range(rooms))
    return (1, rows, tuple(signs[here % len(signs)] for here in range(rooms)))


def plain_reached(machine):
    """The rooms to which rows lead."""
    return sorted(places_reached(0, lambda here, figure: machine[1][here][figure], machine[0]))


def apart_at(machine, longest):
    """For each two rooms the length of the shortest rows, up to longest, that lead them to unlike signs."""
    wide, rows, signs = machine
    rooms = range(len(rows))
    found = {(one, other): 0 for one in rooms for other in rooms if signs[one] != signs[other]}
    for long in range(1, longest + 1):
        fresh = []
        for one, other in itertools.product(rooms, repeat=2):
            if (one, other) not in found:
                if any(found.get(pair) == long - 1 for pair in zip(rows[one], rows[other])):
                    fresh.append((one, other))
        found.update((pair, long) for pair in fresh)
    return found


def unlike_rooms(machine):
    """How many rooms there are no two of which tell the same of all rows: split by where their figures lead."""
    wide, rows, signs = machine
    groups = list(signs)
    many = 0
    while len(set(groups)) > many:
        many = len(set(groups))
        told = [(groups[here],) + tuple(groups[there] for there in row) for here, row in enumerate(rows)]
        numbers = {one: number for number, one in enumerate(sorted(set(told)))}
        groups = [numbers[one] for one in told]
    return many


def plain_weight(factors, base, figure):
    return sum(factor * part for factor, part in zip(factors, parts_of(figure, base, len(factors))))
