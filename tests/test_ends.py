import itertools
import unittest

from asking import Asking
from figuretell.ends import endless, last_number
from figuretell.firsts import first_number
from figuretell.machines import is_steady
from known import GREAT, below_by, grown_plainly, plain_sign, powers_of, rest_by, signs_at
from samples import (
    LONG_WAY, ODD_ONES, ONE_ROOM, TWICE, WIDEST, plain_room, plain_told, small_machines, steady_machines,
)


def only_below(machine, bound):
    """At the numbers below the bound one more than the machine's sign, at all others 0."""
    small = below_by(bound, machine[0])

    def step(place, figure):
        return (machine[1][place[0]][figure], small[1][place[1]][figure])

    def sign(place):
        return (machine[2][place[0]] + 1) * small[2][place[1]]

    return grown_plainly(machine[0], (0, 0), step, sign)


class EndsTest(Asking, unittest.TestCase):
    def check_endless(self, machine, sign):
        """The three rows lead as they should, none is too long, and round and round they tell the sign."""
        self.assertIsNone(last_number(machine, sign))
        answer = endless(machine, sign)
        self.assertIs(tuple, type(answer))
        before, again, after = answer
        for row in answer:
            self.wholes(row, row)
            self.assertTrue(all(0 <= figure < machine[0] for figure in row), answer)
            self.assertLessEqual(len(row), len(machine[1]))
        self.assertNotEqual((), again)
        self.assertNotEqual((), after)
        self.assertNotEqual(0, after[-1])
        there = plain_room(machine, before)
        self.assertEqual(there, plain_room(machine, again, there))
        self.assertEqual(sign, machine[2][plain_room(machine, after, there)])
        for times in range(4):
            self.assertEqual(sign, plain_told(machine, before + again * times + after))
        self.assertEqual(answer, endless(machine, sign))

    def check_last(self, machine, sign, expected):
        self.assertIsNone(endless(machine, sign))
        self.whole(expected, last_number(machine, sign))
        if expected >= 0:
            self.assertEqual(sign, plain_sign(machine, expected))
        # None above it has the sign.
        self.assertIsNone(first_number(machine, sign, expected + 1))

    def check_plainly(self, machine, sign):
        """A number with more figures than there are rooms comes to a room twice, so then there is no end,

        and where there is none, a row that is a round longer than the rooms are at most is among the numbers.
        """
        wide, rows, signs = machine
        having = [number for number in range(wide ** (2 * len(rows))) if plain_sign(machine, number) == sign]
        if having and having[-1] >= wide ** len(rows):
            self.check_endless(machine, sign)
        else:
            self.check_last(machine, sign, max(having, default=-1))

    def test_small_machines(self):
        small = itertools.chain(small_machines(2, 1, 2), small_machines(2, 2, 3), small_machines(3, 2, 2))
        for machine in itertools.chain(small, small_machines(2, 3, 2)):
            if is_steady(machine):
                for sign in range(3):
                    self.check_plainly(machine, sign)

    def test_made_machines(self):
        for machine in itertools.chain(steady_machines(60, 2, 4, 3), steady_machines(20, 3, 3, 3)):
            for sign in range(4):
                self.check_plainly(machine, sign)

    def test_numbers_of_made_machines_below_a_bound(self):
        made = itertools.chain(steady_machines(20, 2, 5, 3), steady_machines(20, 3, 4, 3), steady_machines(5, 10, 6, 9))
        for machine, bound in itertools.product(made, (1, 2, 9, 10, 37, 100, 199)):
            numbers = [number for number in range(bound) if plain_sign(machine, number) == 2]
            self.check_last(only_below(machine, bound), 3, max(numbers, default=-1))

    def test_two_ways_to_equally_long_ones(self):
        # Of two figures, the lowest first, (0, 2), (3, 2), (1, 1) and (2, 1) lead to the sign.
        rows = ((1, 2, 2, 1), (3, 3, 4, 3), (3, 4, 3, 3), (3, 3, 3, 3), (4, 3, 3, 3))
        self.check_last((4, rows, (0, 0, 0, 0, 1)), 1, 11)

    def test_few_numbers(self):
        for wide in (2, 3, 10, 100):
            machine = signs_at(wide, {0: 3, 1: 4, 17: 5, 18: 5, 200: 6, 100: 6, 31: 7, 22: 7})
            for sign, expected in ((3, 0), (4, 1), (5, 18), (6, 200), (7, 31), (1, -1), (999999, -1)):
                self.check_last(machine, sign, expected)
            self.check_endless(machine, 0)

    def test_great_numbers(self):
        for wide, great in itertools.product((2, 10, 100), GREAT):
            machine = signs_at(wide, {great: 1, great - 1: 1, great // wide: 1, 5: 1})
            self.check_last(machine, 1, great)
            self.check_endless(machine, 0)
            machine = below_by(great, wide)
            self.check_last(machine, 1, great - 1)
            self.check_endless(machine, 0)

    def test_the_last_one_of_equally_long_ones(self):
        for numbers in itertools.combinations((4000, 4999, 5000, 5999, 6123, 6132, 6213, 6231, 6312, 6321), 3):
            for wide in (2, 10):
                self.check_last(signs_at(wide, {number: 9 for number in numbers}), 9, max(numbers))

    def test_no_end(self):
        for wide, modulus in ((2, 7), (10, 9), (100, 11), (16, 6)):
            for rest in range(modulus):
                self.check_endless(rest_by(modulus, wide), rest)
        for machine in (ODD_ONES, powers_of(2), powers_of(10), powers_of(100), TWICE):
            self.check_endless(machine, 1)
            self.check_endless(machine, 0)
        self.check_endless(WIDEST, 3)
        self.check_endless(WIDEST, 4)

    def test_made_machines_of_a_greater_wide(self):
        for machine in itertools.chain(steady_machines(10, 10, 40, 9), steady_machines(3, 100, 60, 9)):
            for sign in sorted(set(machine[2])):
                self.check_endless(machine, sign)

    def test_one_room(self):
        self.check_endless(ONE_ROOM, 7)
        self.check_last(ONE_ROOM, 1, -1)
        self.check_last(ONE_ROOM, 0, -1)

    def test_0_alone(self):
        self.check_last((2, ((0, 1), (1, 1)), (1, 0)), 1, 0)
        self.check_last((10, ((0,) + (1,) * 9, (1,) * 10), (8, 0)), 8, 0)

    def test_rounds_that_lead_nowhere(self):
        # Only by noughts on top does it go round at the sign: a round, but of no other numbers.
        self.check_last((2, ((1, 2), (1, 3), (2, 3), (3, 3)), (0, 0, 1, 0)), 1, 1)
        # A round from which nothing leads to the sign, and one to which no row leads.
        self.check_last((2, ((1, 2), (1, 1), (2, 1)), (0, 0, 6)), 6, 1)
        self.check_last((2, ((0, 1), (1, 1), (2, 0)), (5, 0, 5)), 5, 0)

    def test_an_end_on_one_way_and_no_end_on_another(self):
        # Of the even numbers 2 alone has the sign, of the odd ones each.
        self.check_endless((2, ((1, 2), (3, 4), (2, 2), (3, 3), (4, 3)), (0, 0, 1, 0, 1)), 1)
        # Of those with the lowest figure 2 each, of those with 0 or 1 the one with a 1 ahead of it.
        rows = ((1, 1, 3), (2, 4, 2), (2, 2, 2), (3, 3, 3), (4, 2, 2))
        self.check_endless((3, rows, (0, 0, 0, 7, 7)), 7)

    def test_a_round_that_is_long(self):
        rows = tuple((here, here + 1) for here in range(999)) + ((999, 0),)
        self.check_endless((2, rows, (0,) * 999 + (1,)), 1)
        rows = tuple((here + 1,) * 2 for here in range(999)) + ((0, 0),)
        self.check_endless((2, rows, (1,) * 1000), 1)
        self.check_endless(LONG_WAY, 0)
        # A round of one room, far from the begin, and the sign just behind it.
        rows = tuple((here, here + 1) for here in range(998)) + ((998, 999), (999, 998))
        self.check_endless((2, rows, (0,) * 999 + (1,)), 1)

    def test_a_long_way_to_the_end(self):
        # With each 1 a room further, with each 0 too, till none leads on.
        rows = tuple((here + 1,) * 2 for here in range(997)) + ((998, 999), (998, 998), (999, 998))
        self.check_last((2, rows, (0,) * 999 + (1,)), 1, 2 ** 998 - 1)

    def test_what_is_left_out(self):
        machine = signs_at(10, {55: 1, 66: 2})
        self.whole(55, last_number(machine))
        self.whole(66, last_number(machine, 2))
        self.whole(66, last_number(sign=2, machine=machine))
        self.assertIsNone(endless(machine))
        self.assertIsNone(last_number(machine, sign=0))
        self.assertEqual(endless(powers_of(10), 1), endless(powers_of(10)))
        self.assertEqual(endless(machine, 0), endless(sign=0, machine=machine))
        self.assertIsNotNone(endless(powers_of(10)))


if __name__ == "__main__":
    unittest.main()
