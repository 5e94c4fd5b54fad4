"""Statements about whole numbers, told as tuples: what is in them, how deep they are, and their texts."""

COMPARING = ("=", "<=", "<")
JOINING = ("and", "or")
CHOOSING = ("some", "all")
WORDS = ("and", "or", "not", "some", "all")
MOST_LONG = 6


def is_name(thing):
    return is_text_of(thing, "a", "z") and thing not in WORDS


def is_row_name(thing):
    return is_text_of(thing, "A", "Z")


def is_text_of(thing, first, last):
    """Whether the thing is a text of one to six letters from the first to the last one."""
    if not isinstance(thing, str) or not 1 <= len(thing) <= MOST_LONG:
        return False
    return all([first <= letter <= last for letter in thing])


def free(statement):
    names = []
    for added in sums_in(statement):
        names.extend([part[1] for part in added if part[1] != ""])
    for inside in statements_in(statement):
        names.extend(free(inside))
    if statement[0] in CHOOSING:
        names = [name for name in names if name != statement[1]]
    return tuple(sorted(set(names)))


def rows_of(statement):
    names = []
    for piece in pieces_of(statement):
        names.extend(row_names_in(piece))
    return tuple(sorted(set(names)))


def depth(statement):
    return max([1 + depth(inside) for inside in statements_in(statement)], default=0)


def pieces_of(statement):
    pieces = []
    waiting = [statement]
    while waiting:
        piece = waiting.pop()
        pieces.append(piece)
        waiting.extend(statements_in(piece))
    return pieces


def statements_in(statement):
    """The statements that stand right in a statement."""
    kind = statement[0]
    if kind == "not":
        return (statement[1],)
    if kind in JOINING:
        return (statement[1], statement[2])
    if kind in CHOOSING:
        return (statement[2],)
    return ()


def sums_in(statement):
    """The sums that stand right in a statement."""
    kind = statement[0]
    if kind in COMPARING:
        return (statement[1], statement[2])
    if kind == "is":
        return (statement[2],)
    if kind == "like":
        return (statement[2], statement[4])
    return ()


def row_names_in(statement):
    """The rows' names that stand right in a statement."""
    kind = statement[0]
    if kind == "is":
        return (statement[1],)
    if kind == "like":
        return (statement[1], statement[3])
    return ()


def shown(statement):
    kind = statement[0]
    if kind in COMPARING:
        return shown_sum(statement[1]) + f" {kind} " + shown_sum(statement[2])
    if kind == "is":
        return shown_place(statement[1], statement[2]) + " = " + str(statement[3])
    if kind == "like":
        return shown_place(statement[1], statement[2]) + " = " + shown_place(statement[3], statement[4])
    if kind == "not":
        return "not " + shown(statement[1])
    if kind in JOINING:
        return "(" + shown(statement[1]) + f" {kind} " + shown(statement[2]) + ")"
    name = statement[1]
    return f"{kind} {name}: " + shown(statement[2])


def shown_place(row_name, added):
    return row_name + "[" + shown_sum(added) + "]"


def shown_sum(added):
    return " + ".join([shown_part(part) for part in added])


def shown_part(part):
    number = part[0]
    name = part[1]
    if name == "":
        return str(number)
    return name if number == 1 else f"{number}*{name}"
