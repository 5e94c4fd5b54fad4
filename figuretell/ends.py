"""The last number that has a sign, and a round that goes on for ever where there is no last one."""

from figuretell.figures import number_of
from figuretell.firsts import next_rooms, taken_down
from figuretell.leasts import first_rows
from figuretell.machines import reached_rooms, rooms_leading_to


def last_number(machine, sign=1):
    live = live_rooms(machine, sign)
    if 0 not in live:
        return 0 if machine[2][0] == sign else -1
    heights = heights_of(machine[1], live)
    if 0 not in heights:
        return None
    return number_of(highest_row(machine, sign, heights), machine[0])


def endless(machine, sign=1):
    live = live_rooms(machine, sign)
    heights = heights_of(machine[1], live)
    if 0 not in live or 0 in heights:
        return None
    way = way_round(machine[1], dict([(here, True) for here in live if here not in heights]))
    return (way[0], way[1], way_out(machine, sign, way[2]))


def live_rooms(machine, sign):
    """The rooms, as the keys of a dict, that a number's figures may reach with at least one figure, not 0, to come."""
    signs = machine[2]
    closing = []
    for here, row in enumerate(machine[1]):
        if any([signs[there] == sign for there in row[1:]]):
            closing.append(here)
    leading = rooms_leading_to(machine, closing, tuple(range(machine[0])))
    return dict([(here, True) for here in reached_rooms(machine) if here in leading])


def heights_of(rows, live):
    """For each live room the most figures that lead on through live rooms; none for one from which there is no end."""
    left = {}
    back = {}
    for here in live:
        onward = [there for there in sorted(set(rows[here])) if there in live]
        left[here] = len(onward)
        for there in onward:
            back.setdefault(there, []).append(here)
    heights = {}
    level = [here for here in live if left[here] == 0]
    high = 0
    while level:
        fresh = []
        for here in level:
            heights[here] = high
            for there in back.get(here, ()):
                left[there] = left[there] - 1
                if left[there] == 0:
                    fresh.append(there)
        level = fresh
        high = high + 1
    return heights


def highest_row(machine, sign, heights):
    rows = machine[1]
    falling = tuple(range(machine[0] - 1, -1, -1))
    levels = [[0]]
    # The most figures are had only where each one leads to a room that is just one lower.
    for high in range(heights[0] - 1, -1, -1):
        levels.append([there for there in next_rooms(rows, levels[-1], falling) if heights.get(there) == high])
    goal = [other == sign for other in machine[2]]
    return taken_down(rows, levels, [falling] * len(levels), goal)


def way_round(rows, going):
    """The figures from room 0 to a room, those from it round to itself, and that room, all within the rooms going."""
    met = {}
    taken = []
    here = 0
    while here not in met:
        met[here] = len(taken)
        figure = [there in going for there in rows[here]].index(True)
        taken.append(figure)
        here = rows[here][figure]
    return (tuple(taken[:met[here]]), tuple(taken[met[here]:]), here)


def way_out(machine, sign, start):
    signs = machine[2]
    for here, row in first_rows(machine, start).items():
        for figure, there in enumerate(machine[1][here]):
            if figure > 0 and signs[there] == sign:
                return row + (figure,)
    return None
