import itertools
import unittest

from asking import Asking
from figuretell.makes import machine_of
from figuretell.reader import read
from figuretell.statements import free
from meant import BASES, SAYS, names_in, needed, numbers_to_try, read_at, rows_for, says
from samples import numbers_below, unlike_rooms
from sayings import is_so, small_plain, small_statement, worth

NOT_TOO_GREAT = 1000000


def solved(statement, numbers):
    """Numbers for the names of a comparing statement with which its sums are equal, or nearly so."""
    names = names_in(statement)
    for turn, name in enumerate(names):
        values = dict(zip(names, numbers))
        slopes = []
        for added in statement[1:3]:
            slopes.append(worth(added, {**values, name: 1}) - worth(added, {**values, name: 0}))
        values[name] = 0
        gap = worth(statement[2], values) - worth(statement[1], values)
        if slopes[0] != slopes[1]:
            for near in (-1, 0, 1):
                values[name] = max(0, gap // (slopes[0] - slopes[1]) + near)
                yield tuple(values[name] for name in names)


class MachineOfTest(Asking, unittest.TestCase):
    def made(self, statement, base, rows):
        names, machine = machine_of(statement, base, rows, NOT_TOO_GREAT)
        self.assertIs(tuple, type(names))
        self.assertEqual(names_in(statement), names)
        self.is_a_machine(base ** len(names), machine)
        self.assertLessEqual(set(machine[2]), {0, 1})
        self.in_lead_order(machine)
        for here, sign in enumerate(machine[2]):
            self.assertEqual(sign, machine[2][machine[1][here][0]])
        self.assertEqual(len(machine[1]), unlike_rooms(machine))
        return machine

    def test_statements_with_some_and_all_in_each_base(self):
        for base, (text, meaning) in itertools.product(BASES, SAYS):
            rows = rows_for(base)
            machine = self.made(read(text), base, rows)
            for numbers in numbers_to_try(len(free(read(text)))):
                so = says(meaning, rows, numbers)
                self.assertEqual(int(so), read_at(machine, base, numbers), (text, base, numbers))

    def test_statements_without_others_in_them(self):
        below = numbers_below(32)
        for turn in range(150):
            base = 2 + turn % 9
            rows = rows_for(base)
            statement = small_plain(below, ("x", "y", "z") if base < 6 else ("x", "y"))
            machine = self.made(statement, base, rows)
            names = names_in(statement)
            for numbers in numbers_to_try(len(names)):
                tried = [numbers]
                if statement[0] in ("=", "<=", "<"):
                    tried.extend(solved(statement, numbers))
                for row in tried:
                    so = is_so(statement, dict(zip(names, row)), rows)
                    self.assertEqual(int(so), read_at(machine, base, row), (statement, base, row))

    def test_statements_with_others_in_them(self):
        below = numbers_below(33)
        for turn in range(120):
            base = (2, 3, 4, 10)[turn % 4]
            rows = rows_for(base)
            names = ("x", "y") if base > 3 else ("x", "y", "z")
            statement = small_statement(below, names, 1 + turn % 3)
            machine = self.made(statement, base, rows)
            free_names = names_in(statement)
            for numbers in itertools.product(range(6), repeat=len(free_names)):
                # No bound of a some or an all is above 5 + 2 + 2 + 2.
                so = is_so(statement, dict(zip(free_names, numbers)), rows, 12)
                self.assertEqual(int(so), read_at(machine, base, numbers), (statement, base, numbers))

    def test_joined_statements_at_great_numbers(self):
        below = numbers_below(34)
        for turn in range(60):
            base = (2, 3, 10)[turn % 3]
            rows = rows_for(base)
            one, other = small_plain(below, ("x", "y")), small_plain(below, ("z", "x") if base < 10 else ("y", "x"))
            for statement in (("and", one, ("not", other)), ("or", ("not", one), other)):
                machine = self.made(statement, base, rows)
                names = names_in(statement)
                for numbers in numbers_to_try(len(names)):
                    so = is_so(statement, dict(zip(names, numbers)), rows)
                    self.assertEqual(int(so), read_at(machine, base, numbers), (statement, base, numbers))

    def test_written_answers(self):
        x, y = ((1, "x"),), ((1, "y"),)
        self.assertEqual((("x", "y"), (4, ((0, 1, 2, 2), (2, 2, 0, 1), (2, 2, 2, 2)), (1, 0, 0))),
                         machine_of(("=", ((2, "x"),), y)))
        self.assertEqual((("x",), (2, ((0, 1), (1, 0)), (0, 1))), machine_of(("is", "T", x, 1), 2, rows_for(2)))
        self.assertEqual((("x",), (2, ((0, 0),), (1,))), machine_of(("=", x, x)))
        self.assertEqual(((), (1, ((0,),), (1,))), machine_of(("=", ((7, ""),), ((3, ""), (4, "")))))
        self.assertEqual(((), (1, ((0,),), (0,))), machine_of(("<", ((7, ""),), ((3, ""), (4, "")))))
        self.assertEqual((("x",), (10, ((0,) * 10,), (1,))), machine_of(("<=", x, x), 10))


class EdgesOfMachineOfTest(Asking, unittest.TestCase):
    def test_no_free_names(self):
        for base in BASES:
            rows = rows_for(base)
            for one, other in itertools.product((0, 1, 2, 7, 999998, 999999), repeat=2):
                for kind, so in (("=", one == other), ("<=", one <= other), ("<", one < other)):
                    statement = (kind, ((one, ""),), ((other, ""),))
                    self.assertEqual(((), (1, ((0,),), (int(so),))), machine_of(statement, base))
                statement = ("like", "R", ((one, ""), (1, "")), "R", ((other, ""),))
                so = one % 3 == (other - 1) % 3
                self.assertEqual(((), (1, ((0,),), (int(so),))), machine_of(statement, base, rows))
            for number, sign in ((0, 5), (7, 999999), (12, 3), (40, 3), (41, 0), (999999, 0)):
                for asked in (0, 3, 5, 999999):
                    answer = machine_of(("is", "S", ((number, ""),), asked), base, rows)
                    self.assertEqual(((), (1, ((0,),), (int(asked == sign),))), answer)

    def test_a_name_of_some_or_all_that_is_not_free(self):
        rows = rows_for(3)
        for text in ("x = 2*y", "T[x] = 1", "1 = 1", "1 = 2", "some y: x = 2*y", "(x < y or T[x + y] = R[3])"):
            whole = machine_of(read(text), 3, rows)
            for kind, name in itertools.product(("some", "all"), ("q", "abcdef")):
                self.assertEqual(whole, machine_of((kind, name, read(text)), 3, rows))
        self.assertEqual(machine_of(read("some y: x = 2*y")), machine_of(read("all y: some y: x = 2*y")))
        # No more places are needed then, either.
        statement = read("all q: 5*x <= 999 + 3*y")
        self.just_most(needed(statement, 2, {}), machine_of, statement, 2, {})
        self.assertEqual(needed(statement[2], 2, {}), needed(statement, 2, {}))

    def test_factors_that_come_to_nothing(self):
        for base in BASES:
            one, two = (0,) * base, (0,) * base ** 2
            self.assertEqual((("x",), (base, (one,), (1,))), machine_of(read("3*x + 2 = 2*x + 1 + x + 1"), base))
            self.assertEqual((("x",), (base, (one,), (0,))), machine_of(read("x < x"), base))
            self.assertEqual((("x", "y"), (base ** 2, (two,), (1,))), machine_of(read("x + y <= y + x"), base))
            names, machine = machine_of(read("x + 2*y = 2*y + 5 + z"), base)
            self.assertEqual(("x", "y", "z"), names)
            for x, y, z in itertools.product(range(8), repeat=3):
                self.assertEqual(int(x == 5 + z), read_at(machine, base, (x, y, z)))

    def test_a_sum_with_a_name_more_than_once(self):
        rows = rows_for(2)
        self.assertEqual(machine_of(read("6*x = y")), machine_of(read("x + 2*x + 3*x = y + 0")))
        one, other = read("R[6*x + 9] = 1"), read("R[x + 4 + 5*x + 5] = 1")
        self.assertEqual(machine_of(one, 2, rows), machine_of(other, 2, rows))
        factors = " + ".join(["20*x"] * 8)
        names, machine = machine_of(read(factors + " = y"), 2, None, 1000)
        for x, near in itertools.product((1, 5, 10 ** 18 - 1), range(-9, 10)):
            self.assertEqual(int(near == 0), read_at(machine, 2, (x, 160 * x + near)))

    def test_a_row_twice_and_the_same_row_at_two_places(self):
        for base in (2, 3, 10):
            rows = rows_for(base)
            for text in ("T[x] = T[x + 1]", "(T[x] = 1 and T[x + 1] = 1)", "R[2*x] = R[x + x + 3]", "T[x] = R[x]"):
                names, machine = machine_of(read(text), base, rows)
                for (x,) in numbers_to_try(1):
                    self.assertEqual(int(is_so(read(text), {"x": x}, rows)), read_at(machine, base, (x,)))

    def test_a_row_as_it_stands_with_rooms_more_than_it_needs(self):
        # Seven rooms that tell the same as one; so each of them counts.
        wasteful = (2, tuple(((here + 1) % 7, (here + 1) % 7) for here in range(7)), (4,) * 7)
        statement = read("W[x] = 4")
        self.assertEqual((("x",), (2, ((0, 0),), (1,))), self.just_most(7, machine_of, statement, 2, {"W": wasteful}))
        self.assertEqual((("x",), (2, ((0, 0),), (0,))), machine_of(read("W[x] = 5"), 2, {"W": wasteful}))
        self.just_most(7, machine_of, read("W[x] = W[x]"), 2, {"W": wasteful})
        self.just_most(1, machine_of, statement, 2, {"W": (2, ((0, 0),), (4,))})
        # Rooms to which no row leads don't.
        self.just_most(1, machine_of, statement, 2, {"W": (2, ((0, 0), (1, 0)), (4, 9))})

    def test_signs_of_rows_other_than_0_and_1(self):
        rows = {"A": (2, ((0, 1), (1, 0)), (7, 999999)), "B": (2, ((0, 1), (1, 0)), (999999, 7))}
        for text, meaning in (("A[x] = 7", lambda odd: not odd), ("A[x] = 999999", lambda odd: odd),
                              ("A[x] = 1", lambda odd: False), ("A[x] = 0", lambda odd: False),
                              ("A[x] = B[x]", lambda odd: False), ("A[x] = B[0]", lambda odd: odd),
                              ("not A[x] = A[0]", lambda odd: odd)):
            names, machine = machine_of(read(text), 2, rows)
            for x in range(64):
                self.assertEqual(int(meaning(bin(x).count("1") % 2)), read_at(machine, 2, (x,)), (text, x))

    def test_names_are_in_sorted_order_whatever_comes_first(self):
        for text, meaning in (("z < a", lambda a, z: z < a), ("(z = 3 and a = 5)", lambda a, z: z == 3 and a == 5),
                              ("(b = 3 and (c = 1 or a = 5))", lambda a, b, c: b == 3 and (c == 1 or a == 5)),
                              ("(aa < ab and b < aa)", lambda aa, ab, b: b < aa < ab),
                              ("some b: (c = b + b and a = b)", lambda a, c: c == a + a)):
            for base in (2, 3, 7):
                names, machine = machine_of(read(text), base)
                self.assertEqual(tuple(sorted(names)), names)
                for numbers in itertools.product(range(7), repeat=len(names)):
                    self.assertEqual(int(meaning(*numbers)), read_at(machine, base, numbers))

    def test_a_depth_of_20_and_more(self):
        for deep in (20, 21, 25):
            statement = read("x = 2*y")
            for turn in range(deep):
                statement = ("not", statement)
            plain = read("x = 2*y") if deep % 2 == 0 else read("not x = 2*y")
            self.assertEqual(machine_of(plain), machine_of(statement))
            nest = read("x = 2*y")
            for turn in range(deep):
                nest = ("and", nest, read("x = 2*y")) if turn % 2 else ("or", read("x = 2*y"), nest)
            self.assertEqual(machine_of(read("x = 2*y")), machine_of(nest))

    def test_what_is_left_out_of_the_arguments(self):
        statement = read("(x < y and not x + 5 = y)")
        self.assertEqual(machine_of(statement, 2, None, 200), machine_of(statement))
        self.assertEqual(machine_of(statement, 2, {}, 200), machine_of(statement))
        self.assertEqual(machine_of(statement, 7, {}, 200), machine_of(statement, 7))
        rows = rows_for(2)
        asked = read("T[x + y] = 1")
        self.assertEqual(machine_of(asked, 2, rows, 200), machine_of(asked, rows=rows))
        self.assertEqual(machine_of(asked, 2, rows, 50), machine_of(statement=asked, base=2, rows=rows, most=50))
        # Other rows are passed over, whatever they are.
        others = {"T": rows["T"], "Q": None, "R": rows_for(3)}
        self.assertEqual(machine_of(asked, 2, rows), machine_of(asked, 2, others))


if __name__ == "__main__":
    unittest.main()
