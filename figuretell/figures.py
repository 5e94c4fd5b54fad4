"""Numbers told as rows of figures, the lowest first, alone or side by side, and told back."""

from figuretell.errors import NoFigures


def is_whole(thing):
    # For Python, True and False are ints too.
    return isinstance(thing, int) and not isinstance(thing, bool)


def is_whole_from(thing, least):
    return is_whole(thing) and thing >= least


def is_whole_within(thing, least, most):
    return is_whole(thing) and least <= thing <= most


def need_whole(thing, least, called):
    # No error's words show the thing itself: a text of it may fail to be made.
    if not is_whole_from(thing, least):
        raise NoFigures(f"{called} is no whole number from {least} on")


def need_row(thing, called):
    if not isinstance(thing, (tuple, list)):
        raise NoFigures(f"{called} is no tuple and no list")


def power_of(base, times):
    power = 1
    for turn in range(times):
        power = power * base
    return power


def figures(number, wide=10):
    need_whole(number, 0, "number")
    need_whole(wide, 2, "wide")
    powers = []
    power = wide
    while power <= number:
        powers.append(power)
        power = power * power
    # Halved again and again, a long number is told far sooner than figure by figure.
    parts = [number]
    for middle in reversed(powers):
        parts = halved(parts, middle)
    while parts and parts[-1] == 0:
        parts.pop()
    return tuple(parts)


def halved(parts, middle):
    halves = []
    for part in parts:
        halves.append(part % middle)
        halves.append(part // middle)
    return halves


def number_of(row, wide=10):
    need_whole(wide, 2, "wide")
    need_row(row, "row")
    for figure in row:
        if not is_whole_within(figure, 0, wide - 1):
            raise NoFigures("a figure is no whole number from 0 to wide - 1")
    # A nought on top makes no difference, and with it () has a part to tell, too.
    parts = list(row) + [0]
    middle = wide
    while len(parts) > 1:
        parts = merged(parts, middle)
        middle = middle * middle
    return parts[0]


def merged(parts, middle):
    wholes = []
    for at in range(0, len(parts), 2):
        high = parts[at + 1] if at + 1 < len(parts) else 0
        wholes.append(parts[at] + middle * high)
    return wholes


def joint(numbers, base):
    need_whole(base, 2, "base")
    need_row(numbers, "numbers")
    rows = [figures(number, base) for number in numbers]
    # A joint figure's own figures in the base are the numbers' figures at its place,
    # so those of all places, one place behind the other, are the joint number's in the base.
    laid = []
    for place in range(max([len(row) for row in rows], default=0)):
        for row in rows:
            laid.append(row[place] if place < len(row) else 0)
    return number_of(laid, base)


def apart(number, base, many):
    need_whole(base, 2, "base")
    need_whole(many, 0, "many")
    laid = figures(number, base)
    if many == 0 and number != 0:
        raise NoFigures("of no numbers side by side the joint number is 0 alone")
    return tuple([number_of(laid[at::many], base) for at in range(many)])
