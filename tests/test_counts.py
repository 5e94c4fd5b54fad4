import itertools
import unittest

from asking import Asking, all_rows
from figuretell.counts import count_below, ways
from figuretell.machines import is_steady
from known import GREAT, below_by, plain_sign, powers_of, rest_by, signs_at
from samples import (
    FIRST_FIGURE, LONG_WAY, ODD_ONES, ONE_FIGURE, ONE_ROOM, REST_OF_THREE, TWICE, WIDEST, made_machines, plain_room,
    ring, small_machines, steady_machines,
)


class WaysTest(Asking, unittest.TestCase):
    def check(self, machine, long):
        """Each row comes of the one before by each room's figures, and begins with the one way of no figures."""
        wide, rows, signs = machine
        answer = ways(machine, long)
        self.assertIs(tuple, type(answer))
        self.assertEqual(long + 1, len(answer))
        self.wholes((1,) + (0,) * (len(rows) - 1), answer[0])
        for at in range(long):
            expected = [0] * len(rows)
            for here, row in enumerate(rows):
                for there in row:
                    expected[there] += answer[at][here]
            self.wholes(tuple(expected), answer[at + 1])
        self.assertEqual([wide ** at for at in range(long + 1)], [sum(row) for row in answer])
        return answer

    def test_ordinary_machines(self):
        self.assertEqual(((1, 0), (1, 1), (2, 2), (4, 4), (8, 8)), self.check(ODD_ONES, 4))
        self.assertEqual(((1, 0, 0, 0), (0, 1, 1, 1), (0, 3, 3, 3)), self.check(FIRST_FIGURE, 2))
        self.check(REST_OF_THREE, 40)
        self.check(TWICE, 40)

    def test_each_row_of_figures_is_one_way(self):
        for machine in itertools.chain(made_machines(5, 2, 4, 2), made_machines(5, 3, 5, 2), (TWICE, FIRST_FIGURE)):
            counts = [[0] * len(machine[1]) for long in range(6)]
            for row in all_rows(machine[0], 5):
                counts[len(row)][plain_room(machine, row)] += 1
            self.assertEqual(tuple(tuple(row) for row in counts), self.check(machine, 5))

    def test_small_machines(self):
        for machine in itertools.chain(small_machines(2, 2, 1), small_machines(1, 3, 1), small_machines(3, 2, 1)):
            self.check(machine, 5)

    def test_a_long_of_0(self):
        for machine in (ODD_ONES, ONE_ROOM, ONE_FIGURE, WIDEST, TWICE, LONG_WAY):
            self.assertEqual(((1,) + (0,) * (len(machine[1]) - 1),), self.check(machine, 0))

    def test_a_long_of_300(self):
        for machine in (ODD_ONES, TWICE, WIDEST, ring(7, (0, 1))) + tuple(made_machines(3, 100, 6, 2)):
            self.check(machine, 300)

    def test_one_room(self):
        self.assertEqual(((1,), (10,), (100,), (1000,)), self.check(ONE_ROOM, 3))
        self.assertEqual((1000 ** 300,), self.check((1000, ((0,) * 1000,), (0,)), 300)[300])

    def test_a_wide_of_1(self):
        self.assertEqual(((1, 0, 0), (0, 1, 0), (0, 0, 1), (0, 1, 0)), self.check(ONE_FIGURE, 3))
        self.assertEqual(((1,),) * 301, self.check((1, ((0,),), (5,)), 300))
        answer = self.check(ring(7, (0, 1)), 300)
        self.assertEqual([at % 7 for at in range(301)], [row.index(1) for row in answer])

    def test_rooms_to_which_no_row_leads(self):
        answer = self.check((2, ((0, 2), (1, 0), (0, 0)), (0, 0, 0)), 30)
        self.assertEqual({0}, {row[1] for row in answer})

    def test_many_rooms(self):
        answer = self.check(LONG_WAY, 300)
        self.assertEqual((1,), answer[300][300:301])

    def test_machines_that_are_not_steady(self):
        for machine in made_machines(10, 4, 6, 4):
            self.check(machine, 20)

    def test_arguments_by_name(self):
        self.assertEqual(((1, 0), (1, 1)), ways(long=1, machine=ODD_ONES))


class CountBelowTest(Asking, unittest.TestCase):
    def check(self, machine, below, sign):
        """One more, just where the machine has the sign at the bound."""
        answer = count_below(machine, below, sign)
        self.whole(answer + (plain_sign(machine, below) == sign), count_below(machine, below + 1, sign))
        return answer

    def test_ordinary_machines(self):
        self.assertEqual([0, 0, 1, 2, 2, 3, 3, 3, 4], [self.check(ODD_ONES, below, 1) for below in range(9)])
        self.assertEqual([0, 1, 1, 1, 2, 2, 3, 4, 4], [self.check(ODD_ONES, below, 0) for below in range(9)])
        self.assertEqual([34, 33, 33], [self.check(rest_by(3, 10), 100, sign) for sign in range(3)])

    def test_all_bounds_from_0_on(self):
        steady = [machine for machine in small_machines(2, 2, 3) if is_steady(machine)]
        for machine in steady + list(steady_machines(20, 2, 5, 3)) + list(steady_machines(20, 3, 4, 2)):
            for sign in range(3):
                self.whole(0, count_below(machine, 0, sign))
                for below in range(40):
                    self.check(machine, below, sign)
        for machine in steady_machines(5, 10, 6, 4):
            for sign, below in itertools.product(range(5), range(230)):
                self.check(machine, below, sign)

    def test_a_bound_of_0_and_of_1(self):
        for machine in (ODD_ONES, TWICE, ONE_ROOM, rest_by(9, 100), LONG_WAY):
            first = machine[2][0]
            self.whole(0, count_below(machine, 0, first))
            self.whole(1, count_below(machine, 1, first))
            self.whole(0, count_below(machine, 0, 999999))
            self.whole(0, count_below(machine, 1, 999999))

    def test_great_bounds_by_reckoning(self):
        for modulus, wide in ((7, 2), (9, 10), (13, 16), (11, 100), (6, 10)):
            machine = rest_by(modulus, wide)
            for below, rest in itertools.product(GREAT, range(modulus)):
                self.whole((below - rest + modulus - 1) // modulus, self.check(machine, below, rest))

    def test_great_bounds_and_few_numbers(self):
        for wide in (2, 10, 100):
            numbers = (0, 5, 6, 10 ** 17, 10 ** 18 - 1, 2 ** 64 + 1, 10 ** 40 + 9)
            machine = signs_at(wide, {number: 4 for number in numbers})
            for below in numbers + tuple(number + 1 for number in numbers):
                self.whole(len([number for number in numbers if number < below]), self.check(machine, below, 4))
                self.whole(below, count_below(machine, below, 4) + count_below(machine, below, 0))
        for great in GREAT:
            machine = signs_at(10, {great: 5})
            counts = [count_below(machine, below, 5) for below in (great - 1, great, great + 1, great * 10)]
            self.wholes((0, 0, 1, 1), tuple(counts))
        for power in range(0, 140, 7):
            self.whole(power, self.check(powers_of(100), 100 ** power, 1))
            self.whole(power + 1, count_below(powers_of(100), 100 ** power + 1))

    def test_great_bounds_of_the_machine(self):
        for bound in GREAT:
            machine = below_by(bound, 10)
            for below in (bound - 1, bound, bound + 1, bound * 7):
                self.whole(min(bound, below), count_below(machine, below))
                self.whole(max(0, below - bound), count_below(machine, below, 0))

    def test_all_signs_come_to_the_bound(self):
        for machine in list(steady_machines(4, 100, 9, 5)) + list(steady_machines(4, 7, 30, 5)):
            for below in GREAT:
                counts = [self.check(machine, below, sign) for sign in range(5)]
                self.whole(below, sum(counts))

    def test_as_many_as_there_are_ways(self):
        for machine in steady_machines(10, 3, 6, 2):
            counts = ways(machine, 60)
            for long in (0, 1, 2, 30, 60):
                expected = sum(many for many, sign in zip(counts[long], machine[2]) if sign == 1)
                self.whole(expected, count_below(machine, 3 ** long))

    def test_one_room_and_a_sign_that_is_not_there(self):
        for below in (0, 1, 9, 10) + GREAT:
            self.whole(below, count_below(ONE_ROOM, below, 7))
            self.whole(0, count_below(ONE_ROOM, below))
            self.whole(0, count_below(ONE_ROOM, below, 0))
            # The sign is there, but no row leads to it.
            self.whole(0, count_below((2, ((0, 0), (0, 1)), (0, 1)), below, 1))

    def test_what_is_left_out(self):
        machine = signs_at(10, {3: 1, 5: 2, 7: 1})
        self.whole(2, count_below(machine, 8))
        self.whole(1, count_below(machine, 8, 2))
        self.whole(5, count_below(sign=0, below=8, machine=machine))


if __name__ == "__main__":
    unittest.main()
