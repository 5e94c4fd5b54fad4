"""What machine_of and differ refuse, with which class, and which refusal comes first."""

import itertools
import unittest

from asking import Asking, no_wholes
from figuretell.errors import FigureError, NoFigures, NoRow, TooGreat, TooWide
from figuretell.makes import differ, machine_of
from figuretell.reader import read
from meant import BASES, needed, rows_for
from samples import numbers_below
from sayings import small_statement

LETTERS = "abcdefghijk"
# How many names may be free in each base, so that the base to that many isn't above 1000.
MOST_NAMES = {2: 9, 3: 6, 4: 4, 5: 4, 6: 3, 7: 3, 8: 3, 9: 3, 10: 3}

FINE = read("x = y")
NO_ROW = read("Q[x] = 1")
TOO_WIDE = read("a + b + c + d + e = f + g + h + i + j")
TOO_GREAT = read("x < 999999")
# From the refusal that comes first on; most is 10.
PIECES = ((NoRow, NO_ROW), (TooWide, TOO_WIDE), (TooGreat, TOO_GREAT), (None, FINE))


def names_equal(many):
    """A statement with so many free names that has few places in each base."""
    half = (many + 1) // 2
    other = " + ".join(LETTERS[half:many]) if many > half else "0"
    return read(" + ".join(LETTERS[:half]) + " <= " + other)


def around(statement):
    """Statements that the statement is a piece of, with no names more, at several places and depths."""
    yield statement
    yield ("not", statement)
    for kind in ("and", "or"):
        yield (kind, statement, read("1 = 1"))
        yield (kind, read("1 = 2"), statement)
        yield ("not", (kind, ("not", statement), ("not", read("1 = 1"))))
    for kind in ("some", "all"):
        yield (kind, "q", statement)
        yield ("and", (kind, "q", ("not", statement)), read("1 = 2"))


def refusal(function, *arguments):
    try:
        function(*arguments)
    except FigureError as error:
        return (type(error), getattr(error, "most", None))
    return None


class BaseTest(Asking, unittest.TestCase):
    def test_whatever_is_no_base(self):
        for base in no_wholes() + [-10 ** 30, -2, -1, 0, 1, 11, 12, 16, 100, 10 ** 30]:
            for statement in (FINE, read("1 = 1"), NO_ROW, TOO_WIDE, TOO_GREAT):
                self.refused(NoFigures, machine_of, statement, base)
                self.refused(NoFigures, machine_of, statement, base, {}, 1)
                self.refused(NoFigures, differ, statement, FINE, base)
                self.refused(NoFigures, differ, FINE, statement, base, None, 1)

    def test_each_base(self):
        for base in BASES:
            self.assertEqual(base * base, machine_of(FINE, base)[1][0])
            self.assertIsNone(differ(FINE, FINE, base))


class NoRowTest(Asking, unittest.TestCase):
    def test_each_place_of_a_row(self):
        rows = rows_for(2)
        texts = ("Q[x] = 1", "Q[x] = T[x]", "T[x] = Q[x]", "Q[x] = Q[x]", "Q[1] = 1", "(T[x] = 1 and Q[x] = 1)",
                 "TT[x] = 1", "R[x] = QR[x]")
        for text, around_it in itertools.product(texts, range(11)):
            statement = list(around(read(text)))[around_it]
            self.refused(NoRow, machine_of, statement, 2, rows)
            self.refused(NoRow, differ, statement, FINE, 2, rows)
            self.refused(NoRow, differ, FINE, statement, 2, rows)
            for none in (None, {}):
                self.refused(NoRow, machine_of, statement, 2, none)
                self.refused(NoRow, differ, statement, statement, 2, none)
            self.refused(NoRow, machine_of, statement)

    def test_rows_that_are_there(self):
        self.assertEqual(("x",), machine_of(NO_ROW, 2, {"Q": rows_for(2)["T"]})[0])
        self.assertIsNone(differ(NO_ROW, NO_ROW, 2, {"Q": rows_for(2)["T"]}))


class TooWideTest(Asking, unittest.TestCase):
    def test_at_1000_and_just_above_it(self):
        for base, many in MOST_NAMES.items():
            for statement in around(names_equal(many)):
                names, machine = machine_of(statement, base)
                self.assertEqual((many, base ** many), (len(names), machine[0]))
            for statement in around(names_equal(many + 1)):
                self.refused(TooWide, machine_of, statement, base)
                self.refused(TooWide, differ, statement, read("1 = 1"), base)
                self.refused(TooWide, differ, read("1 = 1"), statement, base)

    def test_names_that_some_takes_away_count_inside(self):
        for base, many in MOST_NAMES.items():
            for kind, at in itertools.product(("some", "all"), range(many + 1)):
                statement = (kind, LETTERS[at], names_equal(many + 1))
                self.refused(TooWide, machine_of, statement, base)
                self.refused(TooWide, machine_of, ("not", statement), base)
            statement = (kind, LETTERS[many - 1], names_equal(many))
            self.assertEqual(many - 1, len(machine_of(statement, base)[0]))

    def test_names_of_two_pieces_count_together(self):
        for base, many in MOST_NAMES.items():
            one = names_equal(many)
            for kind in ("and", "or"):
                self.assertEqual(base ** many, machine_of((kind, one, read("a = b")), base)[1][0])
                self.refused(TooWide, machine_of, (kind, one, read("x = 0")), base)
                self.refused(TooWide, machine_of, (kind, read("x = 0"), one), base)
                # A name that is taken away ahead of it doesn't count.
                self.assertEqual(base ** many, machine_of((kind, one, read("some x: x = 0")), base)[1][0])
            self.assertIsNone(differ(one, one, base))
            self.refused(TooWide, differ, one, read("x = 0"), base)
            self.refused(TooWide, differ, read("x = 0"), one, base)

    def test_names_whose_factors_come_to_nothing_count(self):
        self.refused(TooWide, machine_of, read("a + b + c + d = a + b + c + d"), 10)
        self.assertEqual(1000, machine_of(read("a + b + c = a + b + c"), 10)[1][0])


class TooGreatTest(Asking, unittest.TestCase):
    def just_needed(self, statement, base, rows, expected=None):
        most = needed(statement, base, rows)
        if expected is not None:
            self.assertEqual(expected, most, statement)
        answer = self.just_most(most, machine_of, statement, base, rows)
        if most > 1:
            for whole in around(statement):
                self.too_great(most - 1, machine_of, whole, base, rows, most - 1)
        return answer

    def test_walks_of_statements_without_others(self):
        for base in (2, 3, 10):
            rows = rows_for(base)
            for text in ("x = 999999", "3*x = 7*y + 100", "x <= 999999", "5*x <= 3*y + 20", "x < 1000", "x + 9 < 20*y",
                         "S[x] = 3", "R[7*x + 999] = 1", "T[5*x + 3*y] = 1", "T[x] = T[x + 5]", "R[3*x] = S[2*y + 9]",
                         "999999 = 0", "S[999999] = 0", "T[999999] = R[0]", "x = x", "3*x + 7 <= 3*x + y"):
                self.just_needed(read(text), base, rows)

    def test_how_many_places_there_are(self):
        # 8, 4, 2, 1, 0 and None.
        self.just_needed(read("x = 8"), 2, {}, 6)
        # For < the goal is one less: 7, 3, 1, 0, from 0 on -1 and, down from 7 by 1, nothing else.
        self.just_needed(read("x < 8"), 2, {}, 5)
        self.just_needed(read("x <= 7"), 2, {}, 5)
        self.just_needed(read("0 = 0"), 2, {}, 1)
        self.just_needed(read("x = x"), 2, {}, 1)
        # 0 and 1 are carried, in one of two rooms each.
        self.just_needed(read("T[x + y] = 1"), 2, rows_for(2), 4)

    def test_pairs_of_rooms(self):
        pieces = 0
        for base in (2, 3):
            rows = rows_for(base)
            for text in ("(R[x] = 1 and S[x] = 3)", "(R[x] = 1 or S[x] = 3)", "(x = 40 and y = 41)",
                         "(x = 40 or y = 41)", "(R[x] = 0 and (R[y] = 0 and R[z] = 0))",
                         "((x < 99 or 99 < y) and R[y] = 1)", "(x = 2*y or not x = 3*y)", "(B[x] = 1 and B[x] = 0)"):
                statement = read(text)
                inside = max(needed(one, base, rows) for one in statement[1:])
                pieces += needed(statement, base, rows) > inside
                self.just_needed(statement, base, rows)
        self.assertGreater(pieces, 8)

    def test_places_of_some_and_all(self):
        pieces = 0
        rows = rows_for(2)
        for kind, text in itertools.product(("some", "all"), (
                "(R[y] = 1 and x < y)", "(not R[x] = R[y] or S[x + y] = 3)", "x + 5 = 3*y", "(P[y] = 1 and x = 3*y)",
                "(x < y or (B[y] = 1 and R[x + 2*y] = 2))", "x + 7*y <= 20", "x = y")):
            statement = (kind, "y", read(text))
            pieces += needed(statement, 2, rows) > needed(statement[2], 2, rows)
            self.just_needed(statement, 2, rows)
            other = ("not", ("all" if kind == "some" else "some", "y", ("not", read(text))))
            self.assertEqual(self.just_needed(statement, 2, rows), self.just_needed(other, 2, rows))
        self.assertGreater(pieces, 2)

    def test_made_statements(self):
        below = numbers_below(35)
        for turn in range(80):
            base = (2, 3)[turn % 2]
            statement = small_statement(below, ("x", "y"), turn % 4)
            self.just_needed(statement, base, rows_for(base))

    def test_the_most_that_is_left_out_is_200(self):
        statement = ("and", ("is", "L", ((1, "x"),), 1), ("=", ((1, ""),), ((1, ""),)))
        for rooms in (199, 200, 201, 202):
            # A row whose rooms are gone through one behind the other.
            long = (2, tuple((min(here + 1, rooms - 1),) * 2 for here in range(rooms)), (1,) * rooms)
            if rooms <= 200:
                self.assertEqual((("x",), (2, ((0, 0),), (1,))), machine_of(statement, 2, {"L": long}))
                self.assertIsNone(differ(statement, statement, rows={"L": long}))
            else:
                self.too_great(200, machine_of, statement, 2, {"L": long})
                self.too_great(200, differ, statement, statement, 2, {"L": long})

    def test_each_piece_is_made_though_the_others_decide(self):
        for statement in (("and", read("1 = 2"), TOO_GREAT), ("or", TOO_GREAT, read("1 = 1")),
                          ("and", TOO_GREAT, ("not", TOO_GREAT)), ("some", "q", TOO_GREAT),
                          ("all", "x", ("and", TOO_GREAT, read("x < 1")))):
            self.too_great(10, machine_of, statement, 2, None, 10)
            self.too_great(10, differ, statement, read("1 = 1"), 2, None, 10)
            self.too_great(10, differ, statement, statement, 2, None, 10)


class OrderTest(Asking, unittest.TestCase):
    def test_which_refusal_comes_first(self):
        for (one, first), (two, second), (three, third) in itertools.product(PIECES, repeat=3):
            due = [kind for kind in (NoRow, TooWide, TooGreat) if kind in (one, two, three)]
            for kind, other_kind in itertools.product(("and", "or"), repeat=2):
                right, left = (other_kind, second, third), (other_kind, first, second)
                for statement in ((kind, first, right), (kind, left, third)):
                    if due:
                        self.refused(due[0], machine_of, statement, 2, None, 10)
                        self.refused(due[0], machine_of, ("some", "x", ("not", statement)), 2, {}, 10)
                        self.refused(due[0], differ, statement, FINE, 2, {}, 10)
                        self.refused(due[0], differ, FINE, statement, 2, {}, 10)
                    else:
                        self.assertEqual(("x", "y"), machine_of(statement, 2, None, 10)[0])
            if due:
                self.refused(due[0], differ, first, ("or", second, third), 2, None, 10)
                self.refused(due[0], differ, ("and", third, first), second, 2, None, 10)

    def test_differ_is_refused_as_and_is(self):
        below = numbers_below(36)
        rows = rows_for(2)
        rows.pop("P")
        met = {}
        for turn in range(300):
            one, other = small_statement(below, ("x", "y"), turn % 3), small_statement(below, ("y", "z"), turn % 2)
            most = 1 + below(30)
            expected = refusal(machine_of, ("and", one, other), 2, rows, most)
            met[expected and expected[0]] = met.get(expected and expected[0], 0) + 1
            self.assertEqual(expected, refusal(differ, one, other, 2, rows, most))
            self.assertEqual(expected, refusal(differ, other, one, 2, rows, most))
        self.assertGreater(min(met.get(kind, 0) for kind in (None, NoRow, TooGreat)), 20)

    def test_the_most_that_differ_needs(self):
        rows = rows_for(2)
        for one, other in (("x = 40", "y = 41"), ("R[x] = 1", "S[x] = 3"), ("some y: (R[y] = 1 and x < y)", "R[x] = 0"),
                           ("x < y", "y <= x"), ("x = x", "y = y"), ("R[x] = 1", "R[x] = 1"), ("1 = 1", "1 = 2")):
            both = ("and", read(one), read(other))
            most = needed(both, 2, rows)
            for pair in ((read(one), read(other)), (read(other), read(one))):
                self.just_most(most, differ, *pair, 2, rows)


if __name__ == "__main__":
    unittest.main()
