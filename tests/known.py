"""Steady machines of which is known, by reckoning, what sign they have at which number, great ones too."""

from samples import filled, parts_of, plain_figures, plain_told

GREAT = (10 ** 18, 10 ** 18 + 7, 987654321987654321, 2 ** 64 - 1, 2 ** 64, 10 ** 299, 10 ** 300 - 1)


def grown_plainly(wide, begin, step, sign):
    """The machine with a room for each place that is reached."""
    places = [begin]
    numbers = {begin: 0}
    rows = []
    for place in places:
        row = []
        for figure in range(wide):
            there = step(place, figure)
            if there not in numbers:
                numbers[there] = len(places)
                places.append(there)
            row.append(numbers[there])
        rows.append(tuple(row))
    return (wide, tuple(rows), tuple(sign(place) for place in places))


def rest_by(modulus, wide):
    """The sign at a number is its rest by modulus."""

    def step(place, figure):
        rest, weight = place
        return ((rest + figure * weight) % modulus, weight * wide % modulus)

    return grown_plainly(wide, (0, 1 % modulus), step, lambda place: place[0])


def signs_at(wide, signs):
    """The numbers that are keys of signs have the sign that stands there, all others 0."""
    long = max([len(plain_figures(number, wide)) for number in signs], default=0)
    ends = {filled(plain_figures(number, wide), long): sign for number, sign in signs.items()}
    begins = {row[:at] for row in ends for at in range(long + 1)}

    def step(place, figure):
        if place is None or len(place) == long:
            return place if figure == 0 else None
        return place + (figure,) if place + (figure,) in begins else None

    return grown_plainly(wide, (), step, lambda place: 0 if place is None else ends.get(filled(place, long), 0))


def below_by(bound, wide):
    """1 at the numbers below the bound, else 0."""
    top = plain_figures(bound, wide)

    def step(place, figure):
        at, less = place
        if at == len(top):
            return (at, less and figure == 0)
        return (at + 1, figure < top[at] or (figure == top[at] and less))

    def sign(place):
        at, less = place
        return int(at < len(top) or less)

    return grown_plainly(wide, (0, False), step, sign)


def powers_of(wide):
    """1 at the powers of wide, 1 among them, else 0."""
    return (wide, ((0, 1) + (2,) * (wide - 2), (1,) + (2,) * (wide - 1), (2,) * wide), (0, 1, 0))


def adding(base):
    """Of three numbers in the base: 1 where the third one is what the others come to, else 0."""

    def step(place, figure):
        one, other, whole = parts_of(figure, base, 3)
        if place is None or (one + other + place) % base != whole:
            return None
        return (one + other + place) // base

    return grown_plainly(base ** 3, 0, step, lambda place: int(place == 0))


def plain_sign(machine, number):
    return plain_told(machine, plain_figures(number, machine[0]))
