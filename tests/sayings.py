"""Statements that several tests ask about, their texts read back plainly, and what they say of numbers."""

import re

from known import plain_sign
from samples import numbers_below

X = ((1, "x"),)
Y = ((1, "y"),)
ONE = ((1, ""),)
LONGEST_SUM = tuple((20, name) for name in ("abcdef", "b", "c", "d", "e", "f", "g", "zzzzzz"))
SAME = ("=", X, Y)

# What is told of each: the text, the free names, the rows' names, the depth.
TOLD = (
    (SAME, "x = y", ("x", "y"), (), 0),
    (("<=", X, ((3, "y"), (1, ""))), "x <= 3*y + 1", ("x", "y"), (), 0),
    (("<", ((0, ""),), ((999999, ""),)), "0 < 999999", (), (), 0),
    (("=", ((1, "x"), (20, "x")), ((2, "x"),)), "x + 20*x = 2*x", ("x",), (), 0),
    (("=", ((1, "y"), (1, "x")), ((1, ""), (1, "a"))), "y + x = 1 + a", ("a", "x", "y"), (), 0),
    (("is", "T", X, 1), "T[x] = 1", ("x",), ("T",), 0),
    (("is", "ABCDEF", ((2, "x"), (5, "")), 999999), "ABCDEF[2*x + 5] = 999999", ("x",), ("ABCDEF",), 0),
    (("is", "Z", ((0, ""),), 0), "Z[0] = 0", (), ("Z",), 0),
    (("like", "T", X, "S", Y), "T[x] = S[y]", ("x", "y"), ("S", "T"), 0),
    (("like", "T", Y, "T", ((1, "x"), (7, ""))), "T[y] = T[x + 7]", ("x", "y"), ("T",), 0),
    (("not", SAME), "not x = y", ("x", "y"), (), 1),
    (("and", SAME, ("is", "T", X, 1)), "(x = y and T[x] = 1)", ("x", "y"), ("T",), 1),
    (("or", ("is", "T", X, 1), SAME), "(T[x] = 1 or x = y)", ("x", "y"), ("T",), 1),
    (("some", "x", SAME), "some x: x = y", ("y",), (), 1),
    (("all", "y", SAME), "all y: x = y", ("x",), (), 1),
    (("some", "z", SAME), "some z: x = y", ("x", "y"), (), 1),
    (("all", "abcdef", ("=", ((20, "abcdef"),), X)), "all abcdef: 20*abcdef = x", ("x",), (), 1),
    (("all", "x", ("some", "y", SAME)), "all x: some y: x = y", (), (), 2),
    (("not", ("and", ("not", SAME), SAME)), "not (not x = y and x = y)", ("x", "y"), (), 3),
    (("<", LONGEST_SUM, ONE), "20*abcdef + 20*b + 20*c + 20*d + 20*e + 20*f + 20*g + 20*zzzzzz < 1",
     ("abcdef", "b", "c", "d", "e", "f", "g", "zzzzzz"), (), 0),
    (("some", "y", ("and", ("=", X, ((3, "y"), (1, ""))), ("not", ("like", "T", Y, "T", ((1, "x"), (1, "y")))))),
     "some y: (x = 3*y + 1 and not T[y] = T[x + y])", ("x",), ("T",), 3),
)


def made_sum(below):
    parts = []
    for turn in range(1 + below(8)):
        if below(3) == 0:
            parts.append((below(3) * below(500000), ""))
        else:
            parts.append((1 + below(4) * below(7), "abcxyz"[below(6)] * (1 + below(6))))
    return tuple(parts)


def made_statement(below, deep):
    kinds = ("=", "<=", "<", "is", "like") if deep == 0 else ("not", "and", "or", "some", "all")
    kind = kinds[below(5)]
    row = "ABCXYZ"[below(6)] * (1 + below(6))
    if kind == "is":
        return (kind, row, made_sum(below), below(1000000))
    if kind == "like":
        return (kind, row, made_sum(below), "ABCXYZ"[below(6)], made_sum(below))
    if deep == 0:
        return (kind, made_sum(below), made_sum(below))
    inside = made_statement(below, deep - 1)
    if kind == "not":
        return (kind, inside)
    if kind in ("some", "all"):
        return (kind, "abcxyz"[below(6)], inside)
    other = made_statement(below, below(deep))
    return (kind, inside, other) if below(2) == 0 else (kind, other, inside)


def made_statements():
    below = numbers_below(27)
    for turn in range(300):
        yield made_statement(below, turn % 6)


def small_sum(below, names):
    parts = []
    for turn in range(1 + below(3)):
        if below(3) == 0:
            parts.append((below(6), ""))
        else:
            parts.append((1 + below(3), names[below(len(names))]))
    return tuple(parts)


def small_plain(below, names):
    kind = ("=", "<=", "<", "is", "like")[below(5)]
    row = "TRPS"[below(4)]
    if kind == "is":
        return (kind, row, small_sum(below, names), (0, 1, 2, 5)[below(4)])
    if kind == "like":
        return (kind, row, small_sum(below, names), "TRPS"[below(4)], small_sum(below, names))
    return (kind, small_sum(below, names), small_sum(below, names))


def small_statement(below, names, deep):
    """A statement without plan; its some and all are held to numbers that aren't above a sum of one other name."""
    if deep == 0:
        return small_plain(below, names)
    kind = ("not", "and", "or", "some", "all")[below(5)]
    inside = small_statement(below, names, deep - 1)
    if kind == "not":
        return (kind, inside)
    if kind in ("and", "or"):
        return (kind, inside, small_statement(below, names, below(deep)))
    name = names[below(len(names))]
    bound = ((1, names[(names.index(name) + 1) % len(names)]), (below(3), ""))
    if kind == "some":
        return (kind, name, ("and", ("<=", ((1, name),), bound), inside))
    return (kind, name, ("or", ("<", bound, ((1, name),)), inside))


def not_taken(statement, taken):
    """The names in the statement's sums that no some and no all around them takes, and that aren't taken already."""
    if statement[0] in ("some", "all"):
        return not_taken(statement[2], taken | {statement[1]})
    names = set()
    for thing in statement[1:]:
        if isinstance(thing, tuple) and isinstance(thing[0], str):
            names |= not_taken(thing, taken)
        elif isinstance(thing, tuple):
            names |= {name for number, name in thing} - taken
    return names


def text_told(text):
    """A statement's text, read back by its words: what stands ahead of what follows tells the kind."""
    if text.startswith("not "):
        return ("not", text_told(text[4:]))
    choice = re.fullmatch(r"(some|all) ([a-z]{1,6}): (.*)", text)
    if choice:
        return (choice[1], choice[2], text_told(choice[3]))
    if text.startswith("("):
        return joined_told(text)
    one, kind, other = re.fullmatch(r"([^=<]*) (=|<=|<) ([^=<]*)", text).groups()
    if "[" not in one:
        return (kind, sum_told(one), sum_told(other))
    if "[" in other:
        return ("like",) + place_told(one) + place_told(other)
    return ("is",) + place_told(one) + (int(other),)


def joined_told(text):
    deep = 0
    for at, letter in enumerate(text[:-1]):
        deep += (letter == "(") - (letter == ")")
        word = re.match(r" (and|or) ", text[at:])
        if deep == 1 and word:
            return (word[1], text_told(text[1:at]), text_told(text[at + len(word[0]):-1]))


def place_told(text):
    row, added = re.fullmatch(r"([A-Z]{1,6})\[(.*)\]", text).groups()
    return (row, sum_told(added))


def sum_told(text):
    return tuple(part_told(part) for part in text.split(" + "))


def part_told(text):
    if re.fullmatch("[a-z]{1,6}", text):
        return (1, text)
    number, star, name = re.fullmatch(r"(0|[1-9][0-9]{0,5})(?:(\*)([a-z]{1,6}))?", text).groups()
    return (int(number), name or "")


def nested(times, statement=SAME):
    for turn in range(times):
        statement = ("not", statement)
    return statement


def worth(added, numbers):
    """What a sum comes to, with numbers put for its names."""
    return sum(number * numbers[name] if name != "" else number for number, name in added)


def is_so(statement, numbers, rows=None, below=0):
    """Whether the statement is so of the numbers; its some and all look at the numbers below a bound alone."""
    kind = statement[0]
    if kind == "not":
        return not is_so(statement[1], numbers, rows, below)
    if kind in ("and", "or"):
        both = [is_so(inside, numbers, rows, below) for inside in statement[1:]]
        return all(both) if kind == "and" else any(both)
    if kind in ("some", "all"):
        tried = (is_so(statement[2], {**numbers, statement[1]: number}, rows, below) for number in range(below))
        return any(tried) if kind == "some" else all(tried)
    if kind == "is":
        return plain_sign(rows[statement[1]], worth(statement[2], numbers)) == statement[3]
    if kind == "like":
        return len({plain_sign(rows[statement[at]], worth(statement[at + 1], numbers)) for at in (1, 3)}) == 1
    one, other = worth(statement[1], numbers), worth(statement[2], numbers)
    return {"=": one == other, "<=": one <= other, "<": one < other}[kind]
