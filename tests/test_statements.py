import itertools
import re
import unittest

from asking import Asking
from figuretell.statements import depth, free, rows_of, shown
from samples import numbers_below

X = ((1, "x"),)
Y = ((1, "y"),)
ONE = ((1, ""),)
LONGEST_SUM = tuple((20, name) for name in ("abcdef", "b", "c", "d", "e", "f", "g", "zzzzzz"))
SAME = ("=", X, Y)

# What is told of each: the text, the free names, the rows' names, the depth.
TOLD = (
    (SAME, "x = y", ("x", "y"), (), 0),
    (("<=", X, ((3, "y"), (1, ""))), "x <= 3*y + 1", ("x", "y"), (), 0),
    (("<", ((0, ""),), ((999999, ""),)), "0 < 999999", (), (), 0),
    (("=", ((1, "x"), (20, "x")), ((2, "x"),)), "x + 20*x = 2*x", ("x",), (), 0),
    (("=", ((1, "y"), (1, "x")), ((1, ""), (1, "a"))), "y + x = 1 + a", ("a", "x", "y"), (), 0),
    (("is", "T", X, 1), "T[x] = 1", ("x",), ("T",), 0),
    (("is", "ABCDEF", ((2, "x"), (5, "")), 999999), "ABCDEF[2*x + 5] = 999999", ("x",), ("ABCDEF",), 0),
    (("is", "Z", ((0, ""),), 0), "Z[0] = 0", (), ("Z",), 0),
    (("like", "T", X, "S", Y), "T[x] = S[y]", ("x", "y"), ("S", "T"), 0),
    (("like", "T", Y, "T", ((1, "x"), (7, ""))), "T[y] = T[x + 7]", ("x", "y"), ("T",), 0),
    (("not", SAME), "not x = y", ("x", "y"), (), 1),
    (("and", SAME, ("is", "T", X, 1)), "(x = y and T[x] = 1)", ("x", "y"), ("T",), 1),
    (("or", ("is", "T", X, 1), SAME), "(T[x] = 1 or x = y)", ("x", "y"), ("T",), 1),
    (("some", "x", SAME), "some x: x = y", ("y",), (), 1),
    (("all", "y", SAME), "all y: x = y", ("x",), (), 1),
    (("some", "z", SAME), "some z: x = y", ("x", "y"), (), 1),
    (("all", "abcdef", ("=", ((20, "abcdef"),), X)), "all abcdef: 20*abcdef = x", ("x",), (), 1),
    (("all", "x", ("some", "y", SAME)), "all x: some y: x = y", (), (), 2),
    (("not", ("and", ("not", SAME), SAME)), "not (not x = y and x = y)", ("x", "y"), (), 3),
    (("<", LONGEST_SUM, ONE), "20*abcdef + 20*b + 20*c + 20*d + 20*e + 20*f + 20*g + 20*zzzzzz < 1",
     ("abcdef", "b", "c", "d", "e", "f", "g", "zzzzzz"), (), 0),
    (("some", "y", ("and", ("=", X, ((3, "y"), (1, ""))), ("not", ("like", "T", Y, "T", ((1, "x"), (1, "y")))))),
     "some y: (x = 3*y + 1 and not T[y] = T[x + y])", ("x",), ("T",), 3),
)


def made_sum(below):
    parts = []
    for turn in range(1 + below(8)):
        if below(3) == 0:
            parts.append((below(3) * below(500000), ""))
        else:
            parts.append((1 + below(4) * below(7), "abcxyz"[below(6)] * (1 + below(6))))
    return tuple(parts)


def made_statement(below, deep):
    kinds = ("=", "<=", "<", "is", "like") if deep == 0 else ("not", "and", "or", "some", "all")
    kind = kinds[below(5)]
    row = "ABCXYZ"[below(6)] * (1 + below(6))
    if kind == "is":
        return (kind, row, made_sum(below), below(1000000))
    if kind == "like":
        return (kind, row, made_sum(below), "ABCXYZ"[below(6)], made_sum(below))
    if deep == 0:
        return (kind, made_sum(below), made_sum(below))
    inside = made_statement(below, deep - 1)
    if kind == "not":
        return (kind, inside)
    if kind in ("some", "all"):
        return (kind, "abcxyz"[below(6)], inside)
    other = made_statement(below, below(deep))
    return (kind, inside, other) if below(2) == 0 else (kind, other, inside)


def made_statements():
    below = numbers_below(27)
    for turn in range(300):
        yield made_statement(below, turn % 6)


def not_taken(statement, taken):
    """The names in the statement's sums that no some and no all around them takes, and that aren't taken already."""
    if statement[0] in ("some", "all"):
        return not_taken(statement[2], taken | {statement[1]})
    names = set()
    for thing in statement[1:]:
        if isinstance(thing, tuple) and isinstance(thing[0], str):
            names |= not_taken(thing, taken)
        elif isinstance(thing, tuple):
            names |= {name for number, name in thing} - taken
    return names


def text_told(text):
    """A statement's text, read back by its words: what stands ahead of what follows tells the kind."""
    if text.startswith("not "):
        return ("not", text_told(text[4:]))
    choice = re.fullmatch(r"(some|all) ([a-z]{1,6}): (.*)", text)
    if choice:
        return (choice[1], choice[2], text_told(choice[3]))
    if text.startswith("("):
        return joined_told(text)
    one, kind, other = re.fullmatch(r"([^=<]*) (=|<=|<) ([^=<]*)", text).groups()
    if "[" not in one:
        return (kind, sum_told(one), sum_told(other))
    if "[" in other:
        return ("like",) + place_told(one) + place_told(other)
    return ("is",) + place_told(one) + (int(other),)


def joined_told(text):
    deep = 0
    for at, letter in enumerate(text[:-1]):
        deep += (letter == "(") - (letter == ")")
        word = re.match(r" (and|or) ", text[at:])
        if deep == 1 and word:
            return (word[1], text_told(text[1:at]), text_told(text[at + len(word[0]):-1]))


def place_told(text):
    row, added = re.fullmatch(r"([A-Z]{1,6})\[(.*)\]", text).groups()
    return (row, sum_told(added))


def sum_told(text):
    return tuple(part_told(part) for part in text.split(" + "))


def part_told(text):
    if re.fullmatch("[a-z]{1,6}", text):
        return (1, text)
    number, star, name = re.fullmatch(r"(0|[1-9][0-9]{0,5})(?:(\*)([a-z]{1,6}))?", text).groups()
    return (int(number), name or "")


def nested(times, statement=SAME):
    for turn in range(times):
        statement = ("not", statement)
    return statement


class StatementsTest(Asking, unittest.TestCase):
    def texts(self, expected, answer):
        self.assertIs(tuple, type(answer))
        self.assertEqual([str] * len(answer), [type(name) for name in answer])
        self.assertEqual(expected, answer)

    def test_each_kind(self):
        for statement, text, names, rows, deep in TOLD:
            self.assertEqual(text, shown(statement))
            self.texts(names, free(statement))
            self.texts(rows, rows_of(statement))
            self.whole(deep, depth(statement))

    def test_all_joined_of_two(self):
        for (one, other), kind in itertools.product(itertools.product(TOLD, repeat=2), ("and", "or")):
            whole = (kind, one[0], other[0])
            self.assertEqual("(" + one[1] + " " + kind + " " + other[1] + ")", shown(whole))
            self.texts(tuple(sorted(set(one[2] + other[2]))), free(whole))
            self.texts(tuple(sorted(set(one[3] + other[3]))), rows_of(whole))
            self.whole(1 + max(one[4], other[4]), depth(whole))

    def test_all_made_of_one(self):
        for statement, text, names, rows, deep in TOLD:
            self.assertEqual("not " + text, shown(("not", statement)))
            self.texts(names, free(("not", statement)))
            for kind, name in itertools.product(("some", "all"), ("x", "y", "abcdef", "q")):
                whole = (kind, name, statement)
                self.assertEqual(kind + " " + name + ": " + text, shown(whole))
                self.texts(tuple(other for other in names if other != name), free(whole))
                self.texts(rows, rows_of(whole))
                self.whole(1 + deep, depth(whole))

    def test_made_statements_are_the_only_ones_with_their_texts(self):
        for statement in made_statements():
            self.assertEqual(statement, text_told(shown(statement)))

    def test_made_statements_by_what_is_in_them(self):
        for turn, statement in enumerate(made_statements()):
            self.whole(turn % 6, depth(statement))
            self.texts(tuple(sorted(set(re.findall("[A-Z]+", shown(statement))))), rows_of(statement))
            self.texts(tuple(sorted(not_taken(statement, {""}))), free(statement))

    def test_a_part_alone_and_beside_others(self):
        parts = (
            ((1, "x"), "x"), ((2, "x"), "2*x"), ((10, "x"), "10*x"), ((20, "abcdef"), "20*abcdef"), ((1, "b"), "b"),
            ((0, ""), "0"), ((1, ""), "1"), ((2, ""), "2"), ((10, ""), "10"), ((999999, ""), "999999"),
        )
        beside = (((), ""), (((1, "z"),), "z"), (((7, ""), (3, "zz")), "7 + 3*zz"))
        for (part, text), ahead, behind in itertools.product(parts, beside, beside):
            added = ahead[0] + (part,) + behind[0]
            text = " + ".join([piece for piece in (ahead[1], text, behind[1]) if piece != ""])
            self.assertEqual("y <= " + text, shown(("<=", Y, added)))
            self.assertEqual(text + " = y", shown(("=", added, Y)))
            self.assertEqual("T[" + text + "] = 20", shown(("is", "T", added, 20)))
            self.assertEqual("T[y] = U[" + text + "]", shown(("like", "T", Y, "U", added)))
            names = {name for number, name in added if name != ""}
            self.texts(tuple(sorted(names)), free(("is", "T", added, 1)))
            self.texts(tuple(sorted(names | {"y"})), free(("<", Y, added)))
            self.texts(tuple(sorted(names | {"y"})), free(("like", "T", added, "U", Y)))

    def test_names_in_each_sum(self):
        one, other = ((1, "b"), (5, ""), (2, "a")), ((7, "c"), (1, "b"), (3, "bb"))
        for kind in ("=", "<=", "<"):
            self.texts(("a", "b", "bb", "c"), free((kind, one, other)))
        self.texts(("a", "b"), free(("is", "T", one, 3)))
        self.texts(("a", "b", "bb", "c"), free(("like", "B", other, "A", one)))
        self.texts(("A", "B"), rows_of(("like", "B", other, "A", one)))
        self.texts(("B",), rows_of(("like", "B", other, "B", one)))

    def test_a_name_that_is_free_in_one_piece_and_taken_in_another(self):
        taken = ("some", "x", ("=", X, Y))
        apart = ("all", "y", ("<", X, Y))
        self.texts(("x", "y"), free(("and", taken, ("=", X, ONE))))
        self.texts(("x", "y"), free(("or", ("=", X, ONE), taken)))
        self.texts(("x", "y"), free(("and", taken, apart)))
        self.texts(("y",), free(("all", "x", ("or", taken, apart))))
        self.texts((), free(("some", "y", ("all", "x", ("or", taken, apart)))))
        self.texts(("y",), free(("some", "x", taken)))
        self.texts((), free(("some", "x", ("some", "x", ("=", X, ONE)))))
        # A number has no name, and a name within a longer one is another.
        self.texts(("xx",), free(("some", "x", ("=", ((1, "xx"),), ONE))))
        self.texts((), free(("=", ONE, ONE)))
        self.texts((), free(("all", "x", ("=", ONE, ONE))))

    def test_arguments_by_name(self):
        for function, expected in ((free, ("x", "y")), (rows_of, ()), (depth, 0), (shown, "x = y")):
            self.assertEqual(expected, function(statement=SAME))

    def test_a_depth_of_0_and_of_20_and_more(self):
        for deep in (0, 1, 19, 20, 21, 40):
            statement = nested(deep)
            self.whole(deep, depth(statement))
            self.assertEqual("not " * deep + "x = y", shown(statement))
            self.texts(("x", "y"), free(statement))
            self.whole(1 + deep, depth(("and", SAME, statement)))
            self.whole(1 + deep, depth(("or", statement, SAME)))
            self.whole(1 + deep, depth(("some", "x", statement)))
            self.texts(("T",), rows_of(nested(deep, ("is", "T", X, 1))))

    def test_a_text_of_1000_signs(self):
        full = ((20, "abcdef"),) * 8
        leaf = " + ".join(["20*abcdef"] * 8) + " = " + " + ".join(["20*abcdef"] * 8)
        statement = ("=", full, full)
        text = leaf
        for turn in range(4):
            statement = ("and", statement, ("=", full, full))
            text = "(" + text + " and " + leaf + ")"
        statement = ("some", "abcdef", ("not", ("some", "xyz", statement)))
        text = "some abcdef: not some xyz: " + text
        self.assertEqual(1000, len(text))
        self.assertEqual(text, shown(statement))
        self.assertEqual(statement, text_told(text))
        self.texts((), free(statement))
        self.texts(("abcdef",), free(statement[2]))
        self.texts((), rows_of(statement))
        self.whole(7, depth(statement))


if __name__ == "__main__":
    unittest.main()
