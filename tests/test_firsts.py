import itertools
import unittest

from asking import Asking
from figuretell.firsts import first_number, fitting
from figuretell.machines import is_steady
from known import GREAT, adding, below_by, plain_sign, powers_of, rest_by, signs_at
from samples import (
    ODD_ONES, ONE_ROOM, TWICE, joint_figures, plain_figures, plain_told, small_machines, steady_machines,
)


class FirstNumberTest(Asking, unittest.TestCase):
    def check(self, machine, sign, start):
        """By the words of the point. Where there is such a number, there is one with no more figures than

        the start has and as many more as there are rooms: else a room would come twice above the start's figures.
        """
        answer = first_number(machine, sign, start)
        if answer is None:
            bound = machine[0] ** (len(plain_figures(start, machine[0])) + len(machine[1]))
            self.assertNotIn(sign, [plain_sign(machine, number) for number in range(start, bound)])
            return None
        self.whole(answer, answer)
        self.assertGreaterEqual(answer, start)
        self.assertEqual(sign, plain_sign(machine, answer))
        self.assertNotIn(sign, [plain_sign(machine, number) for number in range(start, answer)])
        return answer

    def test_ordinary_machines(self):
        self.assertEqual([1, 1, 2, 4, 4, 7, 7, 7, 8, 11], [self.check(ODD_ONES, 1, start) for start in range(10)])
        self.assertEqual([0, 3, 3, 3, 5, 5, 6, 9, 9, 9], [self.check(ODD_ONES, 0, start) for start in range(10)])
        machine = signs_at(10, {3: 5, 30: 5, 41: 6, 999: 5})
        self.assertEqual([3, 3, 30, 30, 999, 999], [self.check(machine, 5, start) for start in (0, 3, 4, 30, 31, 999)])
        self.assertEqual([41, 41], [self.check(machine, 6, start) for start in (0, 41)])
        self.assertEqual([None, None], [first_number(machine, 5, 1000), first_number(machine, 6, 42)])

    def test_small_machines(self):
        steady = [machine for machine in small_machines(2, 2, 3) if is_steady(machine)]
        for machine in steady + list(steady_machines(40, 2, 4, 3)) + list(steady_machines(20, 3, 3, 2)):
            for sign, start in itertools.product(range(3), range(12)):
                self.check(machine, sign, start)

    def test_machines_of_more_rooms_and_a_greater_wide(self):
        for machine in list(steady_machines(10, 10, 7, 9)) + list(steady_machines(5, 100, 9, 9)):
            for sign, start in itertools.product(sorted(set(machine[2])), (0, 1, 99, 100, 101, 12345, 10 ** 18)):
                if sign in [plain_sign(machine, number) for number in range(start, start + 100)]:
                    self.check(machine, sign, start)

    def test_a_start_at_which_the_machine_has_the_sign(self):
        for start in (0, 1, 7, 10 ** 6) + GREAT:
            self.whole(start, first_number(rest_by(9, 10), start % 9, start))
            self.whole(start, first_number(ONE_ROOM, 7, start))

    def test_great_starts_and_answers(self):
        for modulus, wide in ((7, 2), (9, 10), (13, 16), (11, 100), (6, 10), (2, 3)):
            machine = rest_by(modulus, wide)
            for start, rest in itertools.product(GREAT, range(modulus)):
                self.whole(start + (rest - start) % modulus, first_number(machine, rest, start))

    def test_a_start_far_below_the_answer(self):
        for wide in (2, 10, 77, 100):
            for power in (18, 40, 140):
                answer = wide ** power
                for start in (wide ** (power - 1) + 1, answer // 2 + 1, answer - 1, answer):
                    self.whole(answer, first_number(powers_of(wide), 1, start))
        for answer in GREAT:
            machine = signs_at(10, {answer: 8})
            for start in (0, 1, answer // 10, answer - answer % 10, answer - 1, answer):
                self.whole(answer, first_number(machine, 8, start))
            for start in (answer + 1, answer * 2, 10 ** 300):
                self.assertIsNone(first_number(machine, 8, start))
            self.whole(answer + 1, first_number(machine, 0, answer))

    def test_a_number_that_differs_at_each_place(self):
        # 9876: the figures from a place on stay, the one below is raised, and those under it are as low as can be.
        for there in (9876, 9877, 9880, 9900, 9999, 10000, 10 ** 20):
            self.whole(there, first_number(signs_at(10, {there: 1, there + 10 ** 30: 1, 9875: 1, 0: 1}), 1, 9876))
        for bound in GREAT:
            self.whole(bound, first_number(below_by(bound, 10), 0, 0))
            self.whole(bound, first_number(below_by(bound, 10), 0, bound - 1))
            self.assertIsNone(first_number(below_by(bound, 10), 1, bound))

    def test_of_several_lowest_places_the_least_one_is_taken(self):
        # The two lowest figures come to 9 and then a 1 stands above: 109, not 190 or 118.
        rows = [tuple(range(1, 11))]
        for figure in range(10):
            rows.append(tuple(11 if figure + other == 9 else 13 for other in range(10)))
        rows += [(13, 12) + (13,) * 8, (12,) + (13,) * 9, (13,) * 10]
        machine = (10, tuple(rows), (0,) * 12 + (1, 0))
        self.assertEqual([109, 109, 118, 118, 190, None],
                         [first_number(machine, 1, start) for start in (0, 109, 110, 118, 182, 191)])

    def test_a_long_way(self):
        rows = tuple((here, here + 1) for here in range(998)) + ((998, 998),)
        # With a 1 more in the number there is a room more: the first one with 998 of them.
        self.whole(2 ** 998 - 1, first_number((2, rows, (0,) * 998 + (3,)), 3))
        self.whole(2 ** 999 - 1 - 2 ** 997, first_number((2, rows, (0,) * 998 + (3,)), 3, 2 ** 998))

    def test_no_number_with_the_sign(self):
        for start in (0, 5) + GREAT:
            for machine in (ONE_ROOM, ODD_ONES, rest_by(9, 100)):
                self.assertIsNone(first_number(machine, 999999, start))
        # The sign is there, but no row leads to it.
        self.assertIsNone(first_number((2, ((0, 0), (0, 1)), (0, 1))))

    def test_what_is_left_out(self):
        machine = signs_at(10, {0: 4, 55: 1, 66: 2})
        self.whole(55, first_number(machine))
        self.whole(66, first_number(machine, 2))
        self.whole(0, first_number(machine, 4))
        self.assertIsNone(first_number(machine, start=56))
        self.whole(66, first_number(start=56, sign=2, machine=machine))


class FittingTest(Asking, unittest.TestCase):
    def sign(self, machine, base, at, others, number):
        row = tuple(others[:at]) + (number,) + tuple(others[at:])
        return plain_told(machine, joint_figures(row, base))

    def check(self, machine, base, many, at, others):
        answer = fitting(machine, base, many, at, others)
        self.assertEqual(answer, fitting(machine, base, many, at, list(others)))
        below = answer
        if answer is None:
            # A number with more figures would come to a room twice above the others' figures.
            below = base ** (len(joint_figures(others, base)) + len(machine[1]))
        else:
            self.whole(answer, answer)
            self.assertEqual(1, self.sign(machine, base, at, others, answer))
        self.assertNotIn(1, [self.sign(machine, base, at, others, number) for number in range(below)])
        return answer

    def test_ordinary_machines(self):
        for number in range(20):
            self.assertEqual(2 * number, self.check(TWICE, 2, 2, 1, (number,)))
            self.assertEqual(number // 2 if number % 2 == 0 else None, self.check(TWICE, 2, 2, 0, (number,)))

    def test_each_place(self):
        for machine in steady_machines(12, 8, 4, 2):
            for at in range(3):
                for others in itertools.product(range(4), repeat=2):
                    self.check(machine, 2, 3, at, others)
        for machine in steady_machines(20, 9, 4, 3):
            for at, other in itertools.product(range(2), range(12)):
                self.check(machine, 3, 2, at, (other,))

    def test_machines_of_many_numbers(self):
        for machine in steady_machines(4, 512, 3, 2):
            for at in range(9):
                self.check(machine, 2, 9, at, (3, 0, 1, 2, 7, 0, 5, 4))
        for machine in steady_machines(6, 1000, 9, 5):
            for at in range(3):
                self.assertIsNotNone(self.check(machine, 10, 3, at, (99, 120)))

    def test_many_of_1(self):
        for machine in list(steady_machines(30, 2, 4, 2)) + list(steady_machines(10, 5, 3, 3)) + [ODD_ONES, ONE_ROOM]:
            answer = self.check(machine, machine[0], 1, 0, ())
            self.assertEqual(first_number(machine), answer)
            self.assertEqual(answer, fitting(machine, machine[0], 1, 0, []))

    def test_great_others_and_answers(self):
        for base in (2, 3, 10):
            machine = adding(base)
            for one, other in itertools.product(GREAT + (0, 1), repeat=2):
                self.whole(one + other, fitting(machine, base, 3, 2, (one, other)))
                self.whole(one, fitting(machine, base, 3, 0, [other, one + other]))
                self.whole(other, fitting(machine, base, 3, 1, (one, one + other)))
                self.assertIsNone(fitting(machine, base, 3, 0, (one + 1, one)))
                self.assertIsNone(fitting(machine, base, 3, 1, (one + 1, one)))

    def test_an_answer_longer_than_the_others(self):
        # Of two numbers in base 2: 1 where the second one has a 1 at the place 12 and noughts above it.
        rows = tuple((here + 1,) * 4 for here in range(12)) + ((13, 13, 14, 14), (13,) * 4, (14, 14, 13, 13))
        machine = (4, rows, (0,) * 14 + (1,))
        self.whole(2 ** 12, fitting(machine, 2, 2, 1, (0,)))
        self.whole(2 ** 12, fitting(machine, 2, 2, 1, (10 ** 18,)))
        self.assertIsNone(fitting(machine, 2, 2, 0, (2 ** 12 - 1,)))
        self.whole(0, fitting(machine, 2, 2, 0, (2 ** 12 + 5,)))

    def test_the_sign_asked_for_is_1(self):
        # The sign at two numbers in base 3 is what the first figures come to.
        rows = ((1, 2, 3, 2, 3, 4, 3, 4, 5),) + tuple((here,) * 9 for here in range(1, 6))
        machine = (9, rows, (0, 0, 1, 2, 3, 4))
        self.assertEqual([1, 0, None], [self.check(machine, 3, 2, 0, (other,)) for other in (0, 1, 2)])

    def test_none(self):
        self.assertIsNone(fitting(ONE_ROOM, 10, 1, 0, ()))
        for other in (0, 1) + GREAT:
            self.assertIsNone(fitting((4, ((0,) * 4,), (0,)), 2, 2, 1, (other,)))
            self.whole(0, fitting((4, ((0,) * 4,), (1,)), 2, 2, 1, (other,)))

    def test_arguments_by_name(self):
        self.whole(10, fitting(machine=TWICE, base=2, many=2, at=1, others=(5,)))


if __name__ == "__main__":
    unittest.main()
