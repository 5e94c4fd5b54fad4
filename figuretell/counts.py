"""How many rows of figures lead to each room, and how many numbers below a bound have a sign."""

from figuretell.figures import figures
from figuretell.machines import goals_along


def ways(machine, long):
    onward = counted_onward(machine)
    counts = no_figures_yet(machine)
    rows = [tuple(counts)]
    for turn in range(long):
        counts = counts_on(onward, counts)
        rows.append(tuple(counts))
    return tuple(rows)


def count_below(machine, below, sign=1):
    rows = machine[1]
    row = figures(below, machine[0])
    goals = goals_along(machine, row, sign)
    onward = counted_onward(machine)
    counts = no_figures_yet(machine)
    found = 0
    # A number below the bound has a highest place where it differs: there its figure is lower,
    # above it has the bound's own figures, and below it any.
    for at, figure in enumerate(row):
        goal = goals[at + 1]
        for here, many in enumerate(counts):
            if many > 0:
                found = found + many * len([there for there in rows[here][:figure] if goal[there]])
        counts = counts_on(onward, counts)
    return found


def no_figures_yet(machine):
    return [1] + [0] * (len(machine[1]) - 1)


def counted_onward(machine):
    """For each room the rooms to which figures lead from it, each with how many figures do."""
    onward = []
    for row in machine[1]:
        counts = {}
        for there in row:
            counts[there] = counts.get(there, 0) + 1
        onward.append(list(counts.items()))
    return onward


def counts_on(onward, counts):
    farther = [0] * len(counts)
    for here, many in enumerate(counts):
        if many > 0:
            for there, times in onward[here]:
                farther[there] = farther[there] + many * times
    return farther
