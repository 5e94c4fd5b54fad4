"""Statements made machines, which tell of all numbers whether the statement is so."""

from figuretell.errors import NoFigures, NoRow, TooWide
from figuretell.figures import is_whole_within, power_of
from figuretell.firsts import least_numbers
from figuretell.leasts import least
from figuretell.machines import MOST_WIDE
from figuretell.pieces import changed, paired, some, widened
from figuretell.statements import CHOOSING, COMPARING, JOINING, free, pieces_of, rows_of
from figuretell.sums import Looking, Meeting, Within
from figuretell.walks import Pairing, grown

LEAST_BASE = 2
MOST_BASE = 10


def machine_of(statement, base=2, rows=None, most=200):
    maker = Maker(base, rows, most)
    maker.need_makeable(statement)
    return (free(statement), maker.machine_for(statement))


def differ(one, other, base=2, rows=None, most=200):
    maker = Maker(base, rows, most)
    both = ("and", one, other)
    maker.need_makeable(both)
    return least_numbers(maker.joined(both, unlike), base, len(free(both)))


def need_base(base):
    if not is_whole_within(base, LEAST_BASE, MOST_BASE):
        raise NoFigures(f"the base is no whole number from {LEAST_BASE} to {MOST_BASE}")


def need_rows(statement, rows):
    for name in rows_of(statement):
        if name not in rows:
            raise NoRow(f"there is no row {name}")


def need_narrow(statement, base):
    for piece in pieces_of(statement):
        if power_of(base, len(free(piece))) > MOST_WIDE:
            raise TooWide("too many names are free for this base")


def opposite(sign):
    return 1 - sign


def both_so(one, other):
    return one * other


def one_so(one, other):
    return max(one, other)


def alike(one, other):
    return 1 if one == other else 0


def unlike(one, other):
    return 1 if one != other else 0


class Maker:
    """Makes machines of statements, in a base, by rows, where no piece is greater than most lets it be."""

    def __init__(self, base, rows, most):
        need_base(base)
        self.base = base
        self.rows = {} if rows is None else rows
        self.most = most

    def need_makeable(self, statement):
        need_rows(statement, self.rows)
        need_narrow(statement, self.base)

    def machine_for(self, statement):
        kind = statement[0]
        if kind == "not":
            return changed(self.machine_for(statement[1]), opposite)
        if kind in JOINING:
            return self.joined(statement, both_so if kind == "and" else one_so)
        if kind in CHOOSING:
            return self.chosen(statement)
        machine = grown(self.walk_for(statement), power_of(self.base, len(free(statement))), self.most)
        if kind == "is":
            return changed(machine, lambda sign: alike(sign, statement[3]))
        return least(machine)

    def joined(self, statement, rule):
        names = free(statement)
        one = self.with_names(statement[1], names)
        return paired(one, self.with_names(statement[2], names), rule, self.most)

    def with_names(self, statement, names):
        """The machine of the statement, widened to all of the names."""
        machine = self.machine_for(statement)
        own = free(statement)
        many = len(own)
        for at, name in enumerate(names):
            if name not in own:
                machine = widened(machine, self.base, many, at)
                many = many + 1
        return machine

    def chosen(self, statement):
        machine = self.machine_for(statement[2])
        names = free(statement[2])
        if statement[1] not in names:
            return machine
        at = names.index(statement[1])
        if statement[0] == "some":
            return some(machine, self.base, len(names), at, self.most)
        # All numbers make it so just if there isn't some number that doesn't.
        failing = some(changed(machine, opposite), self.base, len(names), at, self.most)
        return changed(failing, opposite)

    def walk_for(self, statement):
        """The walk of a statement without statements in it."""
        kind = statement[0]
        names = free(statement)
        if kind in COMPARING:
            return self.comparing(kind, statement[1], statement[2], names)
        one = self.looking(statement[1], statement[2], names)
        if kind == "is":
            return one
        return Pairing(one, self.looking(statement[3], statement[4], names), alike)

    def comparing(self, kind, one, other, names):
        factors = [factor_in(one, name) - factor_in(other, name) for name in names]
        goal = factor_in(other, "") - factor_in(one, "")
        if kind == "=":
            return Meeting(factors, goal, self.base)
        return Within(factors, goal - 1 if kind == "<" else goal, self.base)

    def looking(self, row, added, names):
        factors = [factor_in(added, name) for name in names]
        return Looking(self.rows[row], factors, factor_in(added, ""), self.base)


def factor_in(added, name):
    """What the factors of a name in a sum come to; of the name "", what its numbers do."""
    return sum([part[0] for part in added if part[1] == name])
