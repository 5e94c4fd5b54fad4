"""Least machines made of others: paired, changed, widened, and asked whether there is some number."""

from figuretell.errors import TooWide
from figuretell.figures import power_of
from figuretell.leasts import least
from figuretell.machines import MOST_WIDE
from figuretell.walks import Choosing, Pairing, Reading, grown, without_part


def paired(one, other, rule, most=200):
    return least(grown(Pairing(Reading(one), Reading(other), rule), one[0], most))


def changed(machine, rule):
    # Made least first, the machine has signs that it tells of rows alone, so the rule is asked of no others.
    small = least(machine)
    return least((small[0], small[1], tuple([rule(sign) for sign in small[2]])))


def widened(machine, base, many, at):
    wide = power_of(base, many + 1)
    if wide > MOST_WIDE:
        raise TooWide("one number more is too wide in this base")
    small = least(machine)
    below = power_of(base, at)
    narrow = [without_part(figure, base, below) for figure in range(wide)]
    # It stays least: of the figures that come to one figure the lowest are in the same order as these,
    # so the leads are, and what parts two rooms parts them still.
    rows = []
    for row in small[1]:
        rows.append(tuple([row[figure] for figure in narrow]))
    return (wide, tuple(rows), small[2])


def some(machine, base, many, at, most=200):
    return least(grown(Choosing(machine, base, at), power_of(base, many - 1), most))
