"""Machines, tuples (wide, rows, signs), that read rows of figures and tell signs."""

from figuretell.figures import figures, is_whole_within, joint

MOST_WIDE = 1000
MOST_SIGN = 999999


def is_machine(thing):
    if not isinstance(thing, tuple) or len(thing) != 3:
        return False
    wide = thing[0]
    rows = thing[1]
    signs = thing[2]
    if not is_whole_within(wide, 1, MOST_WIDE):
        return False
    if not isinstance(rows, tuple) or len(rows) == 0:
        return False
    for row in rows:
        if not is_tuple_of(row, wide, len(rows) - 1):
            return False
    return is_tuple_of(signs, len(rows), MOST_SIGN)


def is_tuple_of(thing, many, most):
    if not isinstance(thing, tuple) or len(thing) != many:
        return False
    return all([is_whole_within(part, 0, most) for part in thing])


def room(machine, row, start=0):
    rows = machine[1]
    here = start
    for figure in row:
        here = rows[here][figure]
    return here


def told(machine, row):
    return machine[2][room(machine, row)]


def sign_at(machine, number):
    return told(machine, figures(number, machine[0]))


def sign_down(machine, number):
    return told(machine, figures(number, machine[0])[::-1])


def sign_at_all(machine, base, numbers):
    """The sign of a machine of several numbers in a base at a row of these."""
    # With no numbers the wide is 1, in which a number has no figures.
    return sign_at(machine, joint(numbers, base)) if numbers else machine[2][0]


def is_steady(machine):
    rows = machine[1]
    signs = machine[2]
    # A room to which no row leads is told of no row, so it can't make a machine unsteady.
    return all([signs[rows[here][0]] == signs[here] for here in reached_rooms(machine)])


def reached_rooms(machine, start=0):
    # Level by level, by the lower figures first: so the rooms stand in the order of the first rows that lead there.
    rows = machine[1]
    reached = {start: True}
    level = [start]
    while level:
        fresh = []
        for here in level:
            for there in rows[here]:
                if there not in reached:
                    reached[there] = True
                    fresh.append(there)
        level = fresh
    return list(reached)


def rooms_with(machine, sign):
    return [here for here, other in enumerate(machine[2]) if other == sign]


def rooms_leading_to(machine, goals, taken):
    """The rooms from which a row, perhaps (), of the figures taken leads to one of the goals, as the keys of a dict."""
    back = {}
    for here, row in enumerate(machine[1]):
        for figure in taken:
            back.setdefault(row[figure], []).append(here)
    waiting = list(goals)
    leading = dict([(here, True) for here in waiting])
    while waiting:
        here = waiting.pop()
        for there in back.get(here, ()):
            if there not in leading:
                leading[there] = True
                waiting.append(there)
    return leading


def goals_along(machine, row, sign):
    """For each place of the row, and its end: whether, room by room, what stands from there on leads to the sign."""
    goal = [other == sign for other in machine[2]]
    goals = [goal]
    for figure in reversed(row):
        goal = [goal[leading[figure]] for leading in machine[1]]
        goals.append(goal)
    return goals[::-1]
