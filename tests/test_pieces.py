import itertools
import operator
import unittest

from asking import Asking
from figuretell.errors import TooWide
from figuretell.leasts import least
from figuretell.machines import is_steady
from figuretell.pieces import changed, paired, some, widened
from samples import (
    FIRST_FIGURE, LONG_WAY, ODD_ONES, ONE_FIGURE, ONE_ROOM, REST_OF_THREE, TWICE, WIDEST, chosen_rooms, figure_of,
    joint_figures, made_machines, parts_of, places_reached, plain_told, ring, small_machines,
    steady_machines, without,
)


def mixed(one, other):
    return 17 * one + other


def pairs_reached(one, other):
    return len(places_reached((0, 0), lambda place, f: (one[1][place[0]][f], other[1][place[1]][f]), one[0]))


class PairedTest(Asking, unittest.TestCase):
    def check(self, one, other, rule, longest):
        answer = self.just_most(pairs_reached(one, other), paired, one, other, rule)
        self.is_least(one[0], answer)
        self.tells(answer, longest, lambda row: rule(plain_told(one, row), plain_told(other, row)))
        return answer

    def test_ordinary_machines(self):
        answer = self.check(ODD_ONES, REST_OF_THREE, mixed, 6)
        self.assertEqual(6, len(answer[1]))
        self.check(REST_OF_THREE, ODD_ONES, mixed, 6)
        self.check(REST_OF_THREE, ODD_ONES, operator.mul, 6)
        self.assertEqual((2, ((0, 0),), (0,)), self.check(ODD_ONES, ODD_ONES, operator.xor, 6))
        self.assertEqual((2, ((0, 0),), (999999,)), self.check(ODD_ONES, REST_OF_THREE, lambda a, b: 999999, 6))

    def test_a_rule_that_takes_notice_of_one_alone(self):
        self.assertEqual(ODD_ONES, self.check(ODD_ONES, REST_OF_THREE, lambda one, other: one, 5))
        self.assertEqual(REST_OF_THREE, self.check(ODD_ONES, REST_OF_THREE, lambda one, other: other, 5))

    def test_each_two_small_machines(self):
        machines = list(small_machines(2, 2, 2))[::5]
        for one, other in itertools.product(machines, repeat=2):
            self.check(one, other, mixed, 4)

    def test_made_machines(self):
        for one, other in zip(made_machines(20, 3, 4, 3), made_machines(20, 3, 5, 2)):
            self.check(one, other, mixed, 4)
            self.check(one, other, max, 4)

    def test_signs_of_every_size(self):
        answer = self.check(FIRST_FIGURE, (3, ((0, 0, 1), (1, 1, 0)), (0, 999999)), max, 4)
        self.assertIn(999999, answer[2])

    def test_a_wide_of_1(self):
        self.check(ONE_FIGURE, ring(5, (0, 3)), mixed, 20)
        self.assertEqual((1, ((0,),), (4,)), self.check((1, ((0,),), (1,)), (1, ((0,),), (3,)), operator.add, 5))

    def test_one_room(self):
        self.assertEqual((10, ((0,) * 10,), (49,)), paired(ONE_ROOM, ONE_ROOM, operator.mul, 1))

    def test_the_widest(self):
        answer = self.just_most(4, paired, WIDEST, (1000, ((0, 1) * 500, (1, 0) * 500), (0, 1)), mixed)
        self.is_least(1000, answer)
        self.assertEqual(17 * 4 + 1, plain_told(answer, (0, 999)))

    def test_rooms_to_which_no_row_leads_are_not_counted(self):
        machine = (2, ((0, 0), (0, 1), (2, 1)), (5, 6, 7))
        self.assertEqual((2, ((0, 0),), (55,)), paired(machine, machine, lambda one, other: 10 * one + other, 1))

    def test_pairs_are_counted_of_the_machines_as_they_are(self):
        alike = ring(201, (4,))
        self.too_great(200, paired, alike, (1, ((0,),), (0,)), max)
        self.too_great(200, paired, (1, ((0,),), (0,)), alike, max)
        self.assertEqual((1, ((0,),), (4,)), paired(alike, alike, max, 201))

    def test_most_is_200_where_nothing_is_said(self):
        self.assertEqual(200, len(paired(ring(8, range(8)), ring(25, range(25)), mixed_far)[1]))
        self.too_great(200, paired, ring(67, range(67)), ring(3, range(3)), mixed_far)

    def test_great_machines(self):
        answer = paired(LONG_WAY, ODD_ONES, mixed, 2000)
        self.assertEqual(2000, len(answer[1]))
        self.too_great(1999, paired, LONG_WAY, ODD_ONES, mixed, 1999)

    def test_the_rule_is_asked_of_signs_that_the_two_have(self):
        asked = []

        def rule(one, other):
            asked.append((one, other))
            return one

        paired(FIRST_FIGURE, (3, ((0, 1, 0), (1, 1, 0)), (3, 4)), rule)
        self.assertLessEqual({one for one, other in asked}, set(FIRST_FIGURE[2]))
        self.assertLessEqual({other for one, other in asked}, {3, 4})

    def test_by_name_and_again(self):
        before = paired(rule=mixed, other=REST_OF_THREE, one=ODD_ONES, most=6)
        self.too_great(5, paired, ODD_ONES, REST_OF_THREE, mixed, most=5)
        self.assertEqual(before, paired(ODD_ONES, REST_OF_THREE, mixed))


def mixed_far(one, other):
    return 1000 * one + other


class ChangedTest(Asking, unittest.TestCase):
    def check(self, machine, rule, longest):
        answer = changed(machine, rule)
        self.is_least(machine[0], answer)
        self.tells(answer, longest, lambda row: rule(plain_told(machine, row)))
        return answer

    def test_ordinary_machines(self):
        self.assertEqual((2, ((0, 1), (1, 0)), (1, 0)), self.check(ODD_ONES, lambda sign: 1 - sign, 6))
        self.assertEqual((2, ((0, 0),), (3,)), self.check(ODD_ONES, lambda sign: 3, 6))
        self.assertEqual((3, ((0, 0, 0),), (0,)), self.check(FIRST_FIGURE, lambda sign: 0, 4))
        self.check(FIRST_FIGURE, lambda sign: sign // 9, 4)
        self.check(REST_OF_THREE, lambda sign: 999999 - sign % 2, 6)

    def test_changed_by_nothing_it_is_the_least_one(self):
        for machine in list(made_machines(30, 2, 5, 3)) + [ONE_FIGURE, ONE_ROOM, WIDEST, LONG_WAY]:
            self.assertEqual(least(machine), changed(machine, lambda sign: sign))

    def test_small_and_made_machines(self):
        for machine in itertools.chain(small_machines(2, 2, 3), small_machines(1, 3, 3), made_machines(30, 3, 5, 4)):
            self.check(machine, lambda sign: (sign + 1) % 3, 4)
            self.check(machine, lambda sign: sign // 2, 4)

    def test_one_room_and_a_wide_of_1(self):
        self.assertEqual((10, ((0,) * 10,), (8,)), changed(ONE_ROOM, lambda sign: sign + 1))
        self.assertEqual((1, ((0,),), (1,)), self.check(ONE_FIGURE, lambda sign: sign // 5, 6))

    def test_the_rule_is_asked_of_signs_that_the_machine_has(self):
        asked = []

        def rule(sign):
            asked.append(sign)
            return 7

        self.assertEqual((3, ((0, 0, 0),), (7,)), changed(FIRST_FIGURE, rule))
        self.assertEqual(set(FIRST_FIGURE[2]), set(asked))

    def test_great_machines(self):
        self.assertEqual((2, LONG_WAY[1], (1,) * 999 + (0,)), changed(LONG_WAY, lambda sign: 1 - sign))

    def test_by_name_and_again(self):
        before = changed(rule=lambda sign: sign + 1, machine=FIRST_FIGURE)
        self.assertEqual(before, changed(FIRST_FIGURE, lambda sign: sign + 1))


def one_room(wide):
    return (wide, ((0,) * wide,), (3,))


class WidenedTest(Asking, unittest.TestCase):
    def check(self, machine, base, many, at, longest):
        answer = widened(machine, base, many, at)
        self.is_least(base ** (many + 1), answer)

        def narrow(figure):
            return figure_of(without(parts_of(figure, base, many + 1), at), base)

        self.tells(answer, longest, lambda row: plain_told(machine, [narrow(figure) for figure in row]))
        return answer

    def test_an_ordinary_machine(self):
        self.assertEqual((4, ((0, 0, 1, 1), (1, 1, 0, 0)), (0, 1)), self.check(ODD_ONES, 2, 1, 0, 4))
        self.assertEqual((4, ((0, 1, 0, 1), (1, 0, 1, 0)), (0, 1)), self.check(ODD_ONES, 2, 1, 1, 4))

    def test_no_numbers(self):
        for base in (2, 3, 10):
            self.assertEqual((base, ((1,) * base, (1,) * base), (5, 6)), self.check(ONE_FIGURE, base, 0, 0, 3))
        self.assertEqual((2, ((0, 0),), (1,)), self.check((1, ((0,),), (1,)), 2, 0, 0, 5))

    def test_each_place(self):
        for machine in made_machines(20, 2, 4, 3):
            for at in (0, 1):
                self.check(machine, 2, 1, at, 4)
        for machine in made_machines(20, 4, 4, 2):
            for at in (0, 1, 2):
                self.check(machine, 2, 2, at, 3)
        for machine in made_machines(10, 9, 3, 2):
            for at in (0, 1, 2):
                self.check(machine, 3, 2, at, 2)
        for machine in made_machines(10, 8, 5, 2):
            for at in (0, 1, 2, 3):
                self.check(machine, 2, 3, at, 3)

    def test_at_numbers(self):
        for at in (0, 1, 2):
            answer = widened(TWICE, 2, 2, at)
            for numbers in itertools.product(range(9), repeat=3):
                rest = without(numbers, at)
                self.assertEqual(int(rest[1] == 2 * rest[0]), plain_told(answer, joint_figures(numbers, 2)))

    def test_rooms_to_which_no_row_leads_and_alike_ones(self):
        self.assertEqual((4, ((0,) * 4,), (7,)), self.check((2, ((0, 2), (0, 1), (2, 0)), (7, 1, 7)), 2, 1, 1, 4))

    def test_just_1000(self):
        answer = self.check(ONE_FIGURE, 1000, 0, 0, 1)
        self.assertEqual((1000, ((1,) * 1000, (1,) * 1000), (5, 6)), answer)
        # The sign is the last figure.
        last = (100, (tuple(range(100)),) * 100, tuple(range(100)))
        for at in (0, 1, 2):
            answer = widened(last, 10, 2, at)
            self.is_a_machine(1000, answer)
            self.in_lead_order(answer)
            for figure in range(1000):
                narrow = figure_of(without(parts_of(figure, 10, 3), at), 10)
                self.assertEqual(narrow, plain_told(answer, (figure,)))
                self.assertEqual(narrow, plain_told(answer, (987, 12, figure)))

    def test_more_than_1000(self):
        for base, many in ((2, 8), (3, 5), (10, 2), (31, 1), (1000, 0), (5, 3)):
            for at in range(many + 1):
                self.assertEqual(one_room(base ** (many + 1)), widened(one_room(base ** many), base, many, at))
        for base, many in ((2, 9), (3, 6), (10, 3), (32, 1), (1000, 1), (1001, 0), (10 ** 299, 0), (6, 3)):
            for at in range(many + 1):
                self.refused(TooWide, widened, one_room(base ** many), base, many, at)

    def test_by_name_and_again(self):
        before = widened(at=1, many=2, base=2, machine=TWICE)
        self.refused(TooWide, widened, WIDEST, 10, 3, 1)
        self.assertEqual(before, widened(TWICE, 2, 2, 1))


def places_chosen(machine, base, many, at):
    def step(place, figure):
        return chosen_rooms(machine, base, many, at, place, figure)

    return len(places_reached((0,), step, base ** (many - 1)))


class SomeTest(Asking, unittest.TestCase):
    def check(self, machine, base, many, at, long):
        """Of all rows of other numbers of at most that many figures."""
        answer = self.just_most(places_chosen(machine, base, many, at), some, machine, base, many, at)
        self.is_least(base ** (many - 1), answer)
        self.assertTrue(is_steady(answer))
        # Where there is some number at all, there is one of no more figures than the others' and the rooms together.
        tried = range(base ** (long + len(machine[1])))
        for others in itertools.product(range(base ** long), repeat=many - 1):
            found = any(
                plain_told(machine, joint_figures(others[:at] + (number,) + others[at:], base)) == 1 for number in tried
            )
            self.assertEqual(int(found), plain_told(answer, joint_figures(others, base)), (machine, at, others))
        return answer

    def test_ordinary_machines(self):
        # Even numbers are twice some number; of each number some number is the double.
        even = (2, ((1, 2), (1, 1), (2, 2)), (1, 1, 0))
        self.assertEqual(least(even), self.check(TWICE, 2, 2, 0, 4))
        self.assertEqual((2, ((0, 0),), (1,)), self.check(TWICE, 2, 2, 1, 4))

    def test_the_other_numbers_keep_their_order(self):
        # Of x, y, z: 1 where y is twice x, whatever z is; asked for some z it is TWICE again.
        for at in (0, 1, 2):
            self.assertEqual(least(TWICE), self.check(widened(TWICE, 2, 2, at), 2, 3, at, 2))

    def test_one_number(self):
        yes = (1, ((0,),), (1,))
        no = (1, ((0,),), (0,))
        self.assertEqual(yes, self.check(ODD_ONES, 2, 1, 0, 0))
        self.assertEqual(no, self.check((2, ((0, 0), (0, 1)), (0, 1)), 2, 1, 0, 0))
        self.assertEqual(yes, self.check((3, ((0, 0, 1), (1, 1, 1)), (7, 1)), 3, 1, 0, 0))
        self.assertEqual(no, self.check((3, ((0, 0, 1), (1, 1, 1)), (7, 2)), 3, 1, 0, 0))
        for machine in steady_machines(30, 2, 5, 3):
            self.check(machine, 2, 1, 0, 0)

    def test_two_numbers(self):
        for machine in steady_machines(40, 4, 4, 3):
            self.check(machine, 2, 2, 0, 2)
            self.check(machine, 2, 2, 1, 2)
        for machine in steady_machines(15, 9, 3, 2):
            self.check(machine, 3, 2, 0, 1)
            self.check(machine, 3, 2, 1, 1)

    def test_three_numbers(self):
        for machine in steady_machines(10, 8, 3, 2):
            for at in (0, 1, 2):
                self.check(machine, 2, 3, at, 2)

    def test_a_machine_of_one_room(self):
        for sign, told in ((0, 0), (1, 1), (2, 0), (999999, 0)):
            self.assertEqual((2, ((0, 0),), (told,)), self.check((4, ((0,) * 4,), (sign,)), 2, 2, 1, 1))

    def test_a_number_of_more_figures_than_the_others(self):
        # 1 where the first number has just three figures and the second one is 0.
        rows = ((0, 1, 5, 5), (1, 2, 5, 5), (2, 3, 5, 5), (3, 5, 5, 5), (5, 5, 5, 5), (5, 5, 5, 5))
        machine = (4, rows, (0, 0, 0, 1, 0, 0))
        answer = self.check(machine, 2, 2, 0, 2)
        self.assertEqual((2, ((0, 1), (1, 1)), (1, 0)), answer)

    def test_places_are_counted_of_the_machine_as_it_is(self):
        # From each of the 201 rooms both figures lead to the next one; all are alike, so the least machine has one.
        rows = tuple(((here + 1) % 201,) * 2 for here in range(201))
        self.too_great(200, some, (2, rows, (1,) * 201), 2, 1, 0)
        self.assertEqual((1, ((0,),), (1,)), some((2, rows, (1,) * 201), 2, 1, 0, 201))
        self.assertEqual((1, ((0,),), (1,)), some(least((2, rows, (1,) * 201)), 2, 1, 0))

    def test_most_is_200_where_nothing_is_said(self):
        for many in (199, 200, 201, 300):
            rows = tuple(((here + 1) % many,) * 2 for here in range(many))
            if many > 200:
                self.too_great(200, some, (2, rows, (0,) * many), 2, 1, 0)
            else:
                self.assertEqual((1, ((0,),), (0,)), some((2, rows, (0,) * many), 2, 1, 0))

    def test_the_widest(self):
        # 1 where at each place the first two numbers' figures come to that of the third; room 1 tells 0 for ever.
        row = tuple(int(one + two != three) for three in range(10) for two in range(10) for one in range(10))
        machine = (1000, (row, (1,) * 1000), (1, 0))
        low = tuple(int(one + two > 9) for two in range(10) for one in range(10))
        below = tuple(int(two > three) for three in range(10) for two in range(10))
        for at, narrow in ((0, below), (1, below), (2, low)):
            answer = self.just_most(places_chosen(machine, 10, 3, at), some, machine, 10, 3, at)
            self.assertEqual((100, (narrow, (1,) * 100), (1, 0)), answer)

    def test_by_name_and_again(self):
        before = some(most=50, at=0, many=2, base=2, machine=TWICE)
        self.too_great(1, some, TWICE, 2, 2, 0, most=1)
        self.assertEqual(before, some(TWICE, 2, 2, 0))


if __name__ == "__main__":
    unittest.main()
