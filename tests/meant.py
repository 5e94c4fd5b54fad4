"""What statements mean: rows for them, statements with some and all told in Python, and how great their pieces are."""

from figuretell.makes import machine_of
from known import below_by, plain_sign, powers_of, rest_by, signs_at
from samples import (
    chosen_rooms, figure_of, joint_figures, numbers_below, parts_of, places_reached, plain_told, plain_weight)
from sayings import not_taken

BASES = range(2, 11)


def rows_for(base):
    """T: whether the figures come to an odd number; R: the rest by three; P: powers of the base; S, B: few numbers."""
    odd = tuple(figure % 2 for figure in range(base))
    even = tuple(1 - figure % 2 for figure in range(base))
    return {
        "T": (base, (odd, even), (0, 1)),
        "R": rest_by(3, base),
        "P": powers_of(base),
        "S": signs_at(base, {0: 5, 7: 999999, 12: 3, 40: 3}),
        "B": below_by(20, base),
    }


# Each text beside what it says, told by its rows' signs and by numbers for its free names, sorted.
SAYS = (
    ("some y: x = 3*y + 1", lambda sign, x: x % 3 == 1),
    ("some z: x + z = y", lambda sign, x, y: x <= y),
    ("some z: (x + z = y and 0 < z)", lambda sign, x, y: x < y),
    ("all y: x <= y", lambda sign, x: x == 0),
    ("all y: (x <= y or (y = 0 or some x: (x < y and T[x] = 1)))", lambda sign, x: x <= 1),
    ("some q: (x = 7*q + r and r < 7)", lambda sign, r, x: r == x % 7),
    ("some y: (y < x and x < 2*y)", lambda sign, x: x >= 3),
    ("some x: some y: n = 5*x + 7*y", lambda sign, n: n > 23 or any((n - 5 * x) % 7 == 0 for x in range(n // 5 + 1))),
    ("some y: (x = 2*y and T[y] = 1)", lambda sign, x: x % 2 == 0 and sign("T", x // 2) == 1),
    ("some y: (T[y] = 1 and (x < y and y <= x + 2))", lambda sign, x: 1 in (sign("T", x + 1), sign("T", x + 2))),
    ("all y: (y < x or (x + 1 < y or (R[y] = 0 or R[y + 1] = 0)))", lambda sign, x: x % 3 == 2),
    ("some y: (P[y] = 1 and y + 3 = x)", lambda sign, x: x >= 3 and sign("P", x - 3) == 1),
    ("some y: (P[y] = 1 and (y <= x and x < 2*y))",
     lambda sign, x: any(y <= x < 2 * y for y in powers_up_to(sign, x))),
    ("not all y: (B[y] = 0 or y < x)", lambda sign, x: x < 20),
    ("all x: (S[x] = 0 or x + y < 41)", lambda sign, y: 40 + y < 41),
    ("some a: some b: (x = a + b and (a = 2*b and R[a] = R[x]))",
     lambda sign, x: x % 3 == 0 and (2 * (x // 3)) % 3 == x % 3),
    ("some y: all z: (z < y or 5 <= z + x)", lambda sign, x: True),
    ("some y: all z: (z < y and z < x)", lambda sign, x: False),
    ("all x: some y: (x < y and T[y] = 1)", lambda sign: True),
    ("some x: all y: (y <= x or B[y] = 0)", lambda sign: True),
    ("some x: all y: (x < y or T[y] = 1)", lambda sign: False),
)

# Two texts that are so of the same numbers.
ALIKE = (
    ("not some y: x = 2*y", "all y: not x = 2*y"),
    ("not all y: (x < y or R[y] = 1)", "some y: not (x < y or R[y] = 1)"),
    ("not (x < y and T[x] = 1)", "(not x < y or not T[x] = 1)"),
    ("not (x < y or T[x] = 1)", "(not x < y and not T[x] = 1)"),
    ("(x < y and T[x] = 1)", "(T[x] = 1 and x < y)"),
    ("(x < y or (T[x] = 1 or y = 3))", "((y = 3 or x < y) or T[x] = 1)"),
    ("((x < y and T[x] = 1) or (x < y and S[y] = 3))", "(x < y and (T[x] = 1 or S[y] = 3))"),
    ("some y: x = 3*y + 1", "some abc: x = 3*abc + 1"),
    ("all z: (z < x or R[x] = R[z])", "all a: (a < x or R[x] = R[a])"),
    ("x = y", "x + 7 = y + 7"),
    ("x + z = 3*y", "2*z + x + 9 = 9 + z + 3*y"),
    ("x < y", "x + 1 <= y"),
    ("x < y", "not y <= x"),
    ("x = y", "(x <= y and y <= x)"),
    ("x = y", "y = x"),
    ("2*x = 2*y", "x = y"),
    ("T[x] = T[y]", "T[y] = T[x]"),
    ("R[x] = R[x + 3]", "x = x"),
    ("(T[x] = 1 or T[x] = 0)", "0 <= x"),
    ("not not x = 5", "x = 5"),
    ("some y: some z: x = 5*y + 7*z", "some z: some y: x = 7*z + 5*y"),
    ("all x: some y: x < y", "1 = 1"),
    ("some y: all x: x < y", "1 = 2"),
    ("some y: (y = 2*x and T[y] = 1)", "T[2*x] = 1"),
    ("R[x + y] = 0", "((R[x] = 0 and R[y] = 0) or ((R[x] = 1 and R[y] = 2) or (R[x] = 2 and R[y] = 1)))"),
)


def powers_up_to(sign, number):
    """The powers of the base that aren't above the number, and 1; P tells what the base is."""
    base = min(base for base in BASES if sign("P", base) == 1)
    powers = [1]
    while powers[-1] * base <= number:
        powers.append(powers[-1] * base)
    return powers


def says(meaning, rows, numbers):
    return meaning(lambda row, number: plain_sign(rows[row], number), *numbers)


def names_in(statement):
    return tuple(sorted(not_taken(statement, {""})))


def read_at(machine, base, numbers):
    """The sign at a row of numbers, by the figures of their joint number."""
    return plain_told(machine, joint_figures(numbers, base))


def numbers_to_try(many, seed=7):
    """Rows of numbers of up to 18 figures: small ones, ones without any plan, and ones that are much alike."""
    below = numbers_below(seed)
    small = 40 if many < 2 else 6
    for number in range(small ** many):
        yield tuple(number // small ** at % small for at in range(many))
    for turn in range(60 if many else 0):
        number = below(10 ** 9) * 10 ** below(10) + below(100)
        yield tuple(number * below(4) + below(4) for at in range(many))
        yield tuple(below(10 ** 9) * below(10 ** 9) >> below(50) for at in range(many))


def factors_in(added, names):
    return [sum(factor for factor, other in added if other == name) for name in names]


def looked_at(machine, added, names, base):
    """Begin and step of the walk that looks into a row at a sum."""
    factors = factors_in(added, names)

    def step(place, figure):
        total = place[0] + plain_weight(factors, base, figure)
        return (total // base, machine[1][place[1]][total % base])

    return (factors_in(added, ("",))[0], 0), step


def compared(statement, names, base):
    one, other = factors_in(statement[1], names + ("",)), factors_in(statement[2], names + ("",))
    factors = [here - there for here, there in zip(one, other)][:-1]
    goal = other[-1] - one[-1] - (statement[0] == "<")

    def step(place, figure):
        left = None if place is None else place - plain_weight(factors, base, figure)
        if left is None or (statement[0] == "=" and left % base != 0):
            return None
        return left // base

    return goal, step


def places_of_walk(statement, base, rows):
    names = names_in(statement)
    if statement[0] in ("=", "<=", "<"):
        begin, step = compared(statement, names, base)
    else:
        begin, step = looked_at(rows[statement[1]], statement[2], names, base)
    if statement[0] == "like":
        first, one = begin, step
        second, other = looked_at(rows[statement[3]], statement[4], names, base)
        begin, step = (first, second), lambda place, figure: (one(place[0], figure), other(place[1], figure))
    return places_reached(begin, step, base ** len(names))


def pairs_of_rooms(statement, base, rows):
    names = names_in(statement)
    machines = []
    for inside in statement[1:]:
        at = [names.index(name) for name in names_in(inside)]
        machines.append((machine_of(inside, base, rows, 1000000)[1], at))

    def step(place, figure):
        parts = parts_of(figure, base, len(names))
        return tuple(machine[1][here][figure_of([parts[where] for where in at], base)]
                     for here, (machine, at) in zip(place, machines))

    return places_reached((0, 0), step, base ** len(names))


def places_of_choice(statement, base, rows):
    names = names_in(statement[2])
    if statement[1] not in names:
        return (0,)
    machine = machine_of(statement[2], base, rows, 1000000)[1]
    at, many = names.index(statement[1]), len(names)
    return places_reached(
        (0,), lambda place, figure: chosen_rooms(machine, base, many, at, place, figure), base ** (many - 1))


def needed(statement, base, rows):
    """The least most with which the statement is made a machine."""
    kind = statement[0]
    if kind == "not":
        return needed(statement[1], base, rows)
    if kind in ("and", "or"):
        inside = [needed(one, base, rows) for one in statement[1:]]
        return max(inside + [len(pairs_of_rooms(statement, base, rows))])
    if kind in ("some", "all"):
        return max(needed(statement[2], base, rows), len(places_of_choice(statement, base, rows)))
    return len(places_of_walk(statement, base, rows))
