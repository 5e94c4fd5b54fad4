import itertools
import unittest

from asking import Asking
from figuretell.makes import differ, machine_of
from figuretell.reader import read
from meant import ALIKE, BASES, names_in, numbers_to_try, rows_for
from samples import joint_of, numbers_below, row_of
from sayings import is_so, nested, small_plain, small_statement

# Two texts, and the numbers in base 2 that part them.
UNLIKE = (
    ("x = y", "x <= y", (0, 1)),
    ("x < y", "x <= y", (0, 0)),
    ("x = 5", "x = 6", (5,)),
    ("x < 100", "x < 90", (90,)),
    ("T[x] = 1", "R[x] = 1", (2,)),
    ("x = 1000", "x = x + 1", (1000,)),
    ("x = x", "y = y + 1", (0, 0)),
    ("x = 3", "y = 4", (3, 0)),
    ("1 = 1", "1 = 2", ()),
    ("some x: x = 5", "all x: x = 5", ()),
    ("some y: x = 3*y", "some y: x = 6*y", (3,)),
    ("S[x] = 3", "(x = 12 or x = 41)", (40,)),
    ("some y: some z: x = 5*y + 7*z", "not x < 24", (0,)),
    ("some y: some z: x = 5*y + 7*z", "0 <= x", (1,)),
    ("(x < 999999 or x < 5)", "x <= 999999", (999999,)),
)

def far(times, name="x", other="y"):
    """So of 999999 alone, so many times taken twenty times."""
    if times == 0:
        return ("=", ((1, name),), ((999999, ""),))
    return ("some", other, ("and", ("=", ((1, name),), ((20, other),)), far(times - 1, other, name)))


class DifferTest(Asking, unittest.TestCase):
    def parts_first(self, one, other, base, rows, below=0):
        """What is told is so of just one of the two, and it is the first such row of numbers."""
        answer = differ(one, other, base, rows, 1000000)
        names = names_in(("and", one, other))

        def parted(numbers):
            named = dict(zip(names, numbers))
            return is_so(one, named, rows, below) != is_so(other, named, rows, below)

        if answer is None:
            for numbers in numbers_to_try(len(names)) if below == 0 else itertools.product(range(5), repeat=len(names)):
                self.assertFalse(parted(numbers), (one, other, numbers))
        else:
            self.wholes(answer, answer)
            self.assertEqual(len(names), len(answer))
            self.assertTrue(parted(answer), (one, other, answer))
            for number in range(min(joint_of(answer, base), 400) if names else 0):
                self.assertFalse(parted(row_of(number, base, len(names))), (one, other, answer, number))
        self.assertEqual(answer, differ(other, one, base, rows, 1000000))
        return answer

    def test_joint_numbers_are_told_apart_here(self):
        for base, many in itertools.product((2, 3, 10), range(1, 4)):
            for number in range(300):
                self.assertEqual(number, joint_of(row_of(number, base, many), base))

    def test_written_answers(self):
        rows = rows_for(2)
        for one, other, expected in UNLIKE:
            self.wholes(expected, differ(read(one), read(other), 2, rows))
            self.wholes(expected, differ(read(other), read(one), 2, rows))
            self.wholes(expected, differ(("not", read(one)), ("not", read(other)), 2, rows))
            if "[" not in one + other:
                self.wholes(expected, differ(read(one), read(other)))

    def test_alike_in_each_base(self):
        for base, (one, other) in itertools.product(BASES, ALIKE):
            rows = rows_for(base)
            self.assertIsNone(differ(read(one), read(other), base, rows, 1000))

    def test_a_statement_and_its_opposite_differ_at_once(self):
        for base, (one, other) in itertools.product((2, 3, 10), ALIKE):
            rows = rows_for(base)
            names = names_in(("and", read(one), read(other)))
            self.wholes((0,) * len(names), differ(read(one), ("not", read(other)), base, rows, 1000))

    def test_statements_without_others_in_them(self):
        below = numbers_below(41)
        told = 0
        for turn in range(200):
            base = (2, 3, 10)[turn % 3]
            one, other = small_plain(below, ("x", "y")), small_plain(below, ("x", "y", "z")[turn % 2:])
            told += self.parts_first(one, other, base, rows_for(base)) is not None
        self.assertGreater(told, 100)

    def test_statements_that_differ_late(self):
        for base in (2, 3, 10):
            rows = rows_for(base)
            for one, other in (("x < 57", "x < 60"), ("(x = 5 and y = 7)", "1 = 2"), ("x + y < 9", "x + y < 11"),
                               ("(P[x] = 1 and 30 < x)", "x < 0"), ("(S[x] = 3 and R[x] = 1)", "(x = 2 and x = 3)"),
                               ("(B[x] = 1 or 25 < x)", "0 = 0"), ("x = 11", "(x = 11 or (x = y and y = 12))"),
                               ("(x < 20 and y = 3*x)", "(B[x] = 1 and y = 2*x + 8)")):
                answer = self.parts_first(read(one), read(other), base, rows)
                self.assertIsNotNone(answer)

    def test_statements_with_others_in_them(self):
        below = numbers_below(42)
        told = 0
        for turn in range(60):
            base = (2, 3)[turn % 2]
            one, other = small_statement(below, ("x", "y"), 1 + turn % 2), small_statement(below, ("y", "x"), 1)
            # With free numbers of up to 31 no bound of a some or an all is above 31 + 2 + 2.
            answer = differ(one, other, base, rows_for(base), 1000000)
            if answer is None or joint_of(answer, base) < 400:
                told += self.parts_first(one, other, base, rows_for(base), 36) is not None
        self.assertGreater(told, 30)

    def test_names_of_one_of_them_alone(self):
        self.wholes((0, 1), differ(read("y = 1"), read("x = x + 1")))
        self.wholes((3, 0), differ(read("1 = 2"), read("(x = 3 and y = y)")))
        self.wholes((0, 0, 0), differ(read("a = b"), read("c = c + 1")))
        self.assertIsNone(differ(read("x = x"), read("y = y")))
        self.assertIsNone(differ(read("x = x"), read("1 = 1")))
        self.wholes((0,), differ(read("x = x"), read("1 = 2")))

    def test_no_names_at_all(self):
        for one, other in itertools.product(("1 = 1", "1 = 2", "all x: 0 <= x", "some x: x < 0", "T[1] = 0"), repeat=2):
            so = [text in ("1 = 1", "all x: 0 <= x") for text in (one, other)]
            answer = differ(read(one), read(other), 2, rows_for(2))
            self.assertEqual(None if so[0] == so[1] else (), answer)

    def test_however_deep_the_two_together_are(self):
        for deep in (19, 20, 21):
            one = nested(deep)
            self.assertIsNone(differ(one, one))
            self.wholes((0, 0), differ(one, ("not", one)))
            self.wholes((0, 0), differ(nested(20), nested(19)))

    def test_joint_numbers_of_great_numbers(self):
        # Of two numbers that come to 2 ** 19, that joint number is least whose figures, from the top, are 1 .. 1, 3.
        self.wholes((524287, 1), differ(read("x + y <= 524288"), read("x + y < 524288")))
        self.wholes((999999,), differ(read("x < 999999"), read("x <= 999999"), 7))
        self.wholes((19 * 999999,), differ(read("some y: (x = 19*y and y = 999999)"), read("1 = 2"), 2, None, 1000))
        for base, times in itertools.product((2, 3, 10), (1, 5, 9)):
            self.wholes((20 ** times * 999999,), differ(far(times), read("1 = 2"), base, None, 1000))

    def test_what_is_left_out_of_the_arguments(self):
        one, other, rows = read("x < y"), read("x <= y"), rows_for(2)
        self.assertEqual(differ(one, other), differ(one, other, 2, None, 200))
        self.assertEqual(differ(one, other), differ(one=one, other=other, base=2, rows={}, most=200))
        self.assertEqual((2,), differ(read("T[x] = 1"), read("R[x] = 1"), rows=rows))

    def test_where_they_differ_the_machines_do(self):
        below = numbers_below(43)
        rows = rows_for(2)
        made = [small_plain(below, ("x", "y")) for turn in range(60)]
        for one, other in itertools.product([s for s in made if names_in(s) == ("x", "y")], repeat=2):
            alike = machine_of(one, 2, rows, 1000000) == machine_of(other, 2, rows, 1000000)
            self.assertEqual(alike, differ(one, other, 2, rows, 1000000) is None)


if __name__ == "__main__":
    unittest.main()
