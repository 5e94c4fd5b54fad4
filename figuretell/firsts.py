"""The first number that has a sign, the first one that fits beside others, and the first row of numbers."""

from figuretell.figures import apart, figures, joint, number_of, power_of
from figuretell.machines import goals_along, rooms_leading_to, rooms_with
from figuretell.walks import parts_alone


def first_number(machine, sign=1, start=0):
    wide = machine[0]
    every = tuple(range(wide))
    row = least_row(machine, sign, figures(start, wide), lambda figure: every)
    return None if row is None else number_of(row, wide)


def fitting(machine, base, many, at, others):
    wide = machine[0]
    parts = parts_alone(base, power_of(base, at))
    numbers = tuple(others[:at]) + (0,) + tuple(others[at:])
    ground = figures(joint(numbers, base), wide)
    row = least_row(machine, 1, ground, lambda figure: [figure + part for part in parts])
    return None if row is None else apart(number_of(row, wide), base, many)[at]


def least_numbers(machine, base, many):
    """The row of many numbers with the sign 1 whose joint number is least; None where there is none."""
    if many == 0:
        return () if machine[2][0] == 1 else None
    number = first_number(machine)
    return None if number is None else apart(number, base, many)


def least_row(machine, sign, ground, free_for):
    """The least row, by its highest figures first, not below the row ground, that leads to the sign; or None.

    free_for tells, rising, the figures that may stand where ground has a figure; behind its end it has noughts.
    """
    rows = machine[1]
    goals = goals_along(machine, ground, sign)
    if goals[0][0]:
        return ground
    live = rooms_leading_to(machine, rooms_with(machine, sign), tuple(range(machine[0])))
    if 0 not in live:
        return None
    levels = [[0]]
    orders = []
    # What differs from ground at a lower place at most is less, so the lowest place is tried first.
    while levels[-1]:
        at = len(orders)
        figure = ground[at] if at < len(ground) else 0
        order = free_for(figure)
        raised = [other for other in order if other > figure]
        goal = goals[min(at + 1, len(ground))]
        if first_leading(rows, levels[at], raised, goal) is not None:
            return taken_down(rows, levels, orders + [raised], goal) + ground[at + 1:]
        if at >= len(ground):
            # All places are alike from here on: a room that has had its turn has nothing new to tell.
            for here in levels[at]:
                live.pop(here)
        orders.append(order)
        levels.append([there for there in next_rooms(rows, levels[at], order) if there in live])
    return None


def next_rooms(rows, level, taken):
    reached = {}
    for here in level:
        row = rows[here]
        for figure in taken:
            reached[row[figure]] = True
    return list(reached)


def first_leading(rows, level, order, goal):
    """The first figure of the order that leads from a room of the level to the goal; None where none does."""
    for figure in order:
        for here in level:
            if goal[rows[here][figure]]:
                return figure
    return None


def taken_down(rows, levels, orders, goal):
    """Of the rows, with a figure for each level, that lead to the goal, the first one, told by its last figure first:

    each figure comes as early in its level's order as those behind it let it.
    """
    taken = []
    for at in range(len(levels) - 1, -1, -1):
        figure = first_leading(rows, levels[at], orders[at], goal)
        nearer = [False] * len(rows)
        for here in levels[at]:
            nearer[here] = goal[rows[here][figure]]
        goal = nearer
        taken.append(figure)
    return tuple(taken[::-1])
