"""The rows that lead to rooms, the rows that part them, and least machines."""

from figuretell.machines import reached_rooms


def leads(machine):
    found = first_rows(machine, 0)
    return tuple([found.get(here) for here in range(len(machine[1]))])


def first_rows(machine, start):
    """A dict of the rooms to which rows lead from the start, in the order of the first rows that do, and these."""
    rows = machine[1]
    found = {start: ()}
    # A room's row is found before its turn comes, since the rooms come in the order of these rows.
    for here in reached_rooms(machine, start):
        for figure, there in enumerate(rows[here]):
            if there not in found:
                found[there] = found[here] + (figure,)
    return found


def parting(machine, one, other):
    signs = machine[2]
    alike = Alike(len(signs))
    level = [(one, other, ())]
    while level:
        for here, there, row in level:
            if signs[here] != signs[there]:
                return row
        level = led_on(machine[1], alike, level)
    return None


def led_on(rows, alike, level):
    # Two rooms that stand in one group already are passed over: what parts them parts two
    # that were taken as alike one after the other between them, and these came no later.
    fresh = []
    for here, there, row in level:
        for figure, one in enumerate(rows[here]):
            other = rows[there][figure]
            if alike.group_of[one] != alike.group_of[other]:
                alike.take_as_alike(one, other)
                fresh.append((one, other, row + (figure,)))
    return fresh


class Alike:
    """Rooms in groups, each by itself at first, that are joined as rooms are taken as alike."""

    def __init__(self, many):
        self.group_of = list(range(many))
        self.members = [[here] for here in range(many)]

    def take_as_alike(self, one, other):
        small = self.group_of[one]
        great = self.group_of[other]
        if len(self.members[small]) > len(self.members[great]):
            small = self.group_of[other]
            great = self.group_of[one]
        moved = self.members[small]
        for here in moved:
            self.group_of[here] = great
        self.members[great].extend(moved)
        self.members[small] = []


def least(machine):
    reached = reached_rooms(machine)
    small = with_rooms(machine, reached, dict([(here, number) for number, here in enumerate(reached)]))
    # The rooms stand in the order of their leads, so a group's first room has the group's lead.
    numbers = {}
    firsts = []
    groups = unparted_groups(small)
    for here, group in enumerate(groups):
        if group not in numbers:
            numbers[group] = len(numbers)
            firsts.append(here)
    return with_rooms(small, firsts, [numbers[group] for group in groups])


def with_rooms(machine, kept, numbers):
    rows = machine[1]
    signs = machine[2]
    kept_rows = []
    for here in kept:
        kept_rows.append(tuple([numbers[there] for there in rows[here]]))
    return (machine[0], tuple(kept_rows), tuple([signs[here] for here in kept]))


def columns_of(machine):
    rows = machine[1]
    columns = []
    for figure in range(machine[0]):
        columns.append(tuple([row[figure] for row in rows]))
    return columns


def unparted_groups(machine):
    # Figures that lead everywhere alike part alike, so one of them is enough.
    distinct = list(dict([(column, True) for column in columns_of(machine)]))
    backs = [back_of(column) for column in distinct]
    parted = Parted(machine[2])
    while parted.waiting and not parted.is_done():
        splitter = parted.next_splitter()
        for back in backs:
            leading = []
            for here in splitter:
                leading.extend(back.get(here, ()))
            parted.part_by(leading)
    return parted.group_of


def back_of(column):
    back = {}
    for here, there in enumerate(column):
        back.setdefault(there, []).append(here)
    return back


class Parted:
    """Rooms in groups, by their signs at first, that are split as rows are found that part them."""

    def __init__(self, signs):
        numbers = {}
        group_of = [numbers.setdefault(sign, len(numbers)) for sign in signs]
        members = [{} for sign in numbers]
        for here, group in enumerate(group_of):
            members[group][here] = True
        self.group_of = group_of
        self.members = members
        self.waiting = list(range(len(members)))
        self.is_waiting = dict([(group, True) for group in range(len(members))])

    def is_done(self):
        return len(self.members) == len(self.group_of)

    def next_splitter(self):
        group = self.waiting.pop()
        self.is_waiting.pop(group)
        # A copy, since the group may split itself before all figures have had their turn with it.
        return list(self.members[group])

    def part_by(self, leading):
        touched = {}
        for here in leading:
            touched.setdefault(self.group_of[here], []).append(here)
        for group, inside in touched.items():
            if len(inside) < len(self.members[group]):
                self.split_off(group, inside)

    def split_off(self, group, inside):
        fresh = len(self.members)
        outside = self.members[group]
        for here in inside:
            outside.pop(here)
            self.group_of[here] = fresh
        self.members.append(dict([(here, True) for here in inside]))
        # What the whole group and one half split, the other half can't split further: the smaller half
        # is enough, and so no room waits more often than its group can be halved.
        if group in self.is_waiting or len(inside) <= len(outside):
            self.wait_for(fresh)
        else:
            self.wait_for(group)

    def wait_for(self, group):
        self.waiting.append(group)
        self.is_waiting[group] = True
