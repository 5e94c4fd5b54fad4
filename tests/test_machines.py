import itertools
import unittest

from asking import Asking, Strange, all_rows, no_wholes
from figuretell.errors import NoFigures
from figuretell.machines import is_machine, is_steady, room, sign_at, sign_down, told
from samples import (
    ALL, FIRST_FIGURE, ODD_ONES, ONE_FIGURE, ONE_ROOM, REST_OF_THREE, WIDEST, plain_figures, plain_room, small_machines,
)


class IsMachineTest(unittest.TestCase):
    def yes(self, thing):
        self.assertIs(True, is_machine(thing))

    def no(self, thing):
        self.assertIs(False, is_machine(thing))

    def test_machines(self):
        for machine in ALL:
            self.yes(machine)
        for machine in small_machines(2, 2, 2):
            self.yes(machine)

    def test_edges_of_the_wide(self):
        for wide in (1, 2, 999, 1000):
            self.yes((wide, ((0,) * wide,), (0,)))
        for wide in (1001, 1002, 10000):
            self.no((wide, ((0,) * wide,), (0,)))
        self.no((0, ((),), (0,)))
        self.no((-1, ((),), (0,)))
        self.no((10 ** 300, ((0,),), (0,)))

    def test_the_wide_is_a_whole_number(self):
        for wide in no_wholes():
            self.no((wide, ((0,),), (0,)))
            self.no((wide, ((),), (0,)))
        self.no((True, ((0,),), (0,)))
        self.no((2.0, ((0, 0),), (0,)))

    def test_rows_are_a_tuple_of_one_or_more(self):
        self.no((2, (), ()))
        self.no((2, (), (0,)))
        self.no((2, [(0, 0)], (0,)))
        for rows in no_wholes():
            self.no((1, rows, (0,)))
            self.no((1, rows, ()))
        self.no((1, 1, (0,)))
        self.no((1, {(0,): (0,)}, (0,)))
        self.no((1, "0", (0,)))

    def test_each_row_is_a_tuple(self):
        self.no((2, ([0, 0],), (0,)))
        self.no((2, ((0, 1), [0, 1]), (0, 0)))
        self.no((2, ({0: 0, 1: 0},), (0,)))
        self.no((2, ("00",), (0,)))
        self.no((1, (0,), (0,)))
        self.no((1, (range(1),), (0,)))
        for row in no_wholes():
            self.no((2, ((0, 1), row), (0, 0)))

    def test_each_row_is_as_long_as_the_wide(self):
        self.yes((3, ((0, 0, 0), (1, 1, 1)), (0, 0)))
        self.no((3, ((0, 0, 0), (1, 1)), (0, 0)))
        self.no((3, ((0, 0, 0), (1, 1, 1, 1)), (0, 0)))
        self.no((3, ((0, 0), (1, 1)), (0, 0)))
        self.no((3, ((), ()), (0, 0)))
        self.no((1, ((),), (0,)))

    def test_rows_hold_numbers_of_rooms(self):
        for there in no_wholes() + [-1, -2, 2, 3, 10 ** 300]:
            self.no((2, ((0, there), (0, 1)), (0, 0)))
            self.no((2, ((0, 0), (there, 1)), (0, 0)))
        self.yes((2, ((0, 1), (1, 1)), (0, 0)))
        self.no((1, ((1,),), (0,)))

    def test_signs_are_a_tuple_with_one_for_each_room(self):
        self.no((1, ((0,),), ()))
        self.no((1, ((0,),), (0, 0)))
        self.no((1, ((0,), (1,)), (0,)))
        self.no((1, ((0,),), [0]))
        self.no((1, ((0,),), {0: 0}))
        self.no((1, ((0,),), "0"))
        self.no((1, ((0,),), 0))
        for signs in no_wholes():
            self.no((1, ((0,), (1,)), signs))

    def test_edges_of_the_signs(self):
        for sign in (0, 1, 999998, 999999):
            self.yes((1, ((0,), (0,)), (0, sign)))
        for sign in no_wholes() + [-1, 1000000, 10 ** 300]:
            self.no((1, ((0,), (0,)), (0, sign)))
            self.no((1, ((0,), (0,)), (sign, 0)))

    def test_a_tuple_of_three(self):
        self.no(())
        self.no((1,))
        self.no((1, ((0,),)))
        self.no((1, ((0,),), (0,), ()))
        self.no((1, ((0,),), (0,), None))
        self.no([1, ((0,),), (0,)])
        self.no({0: 1, 1: ((0,),), 2: (0,)})
        self.no((((0,),), 1, (0,)))
        self.no((ODD_ONES, ODD_ONES, ODD_ONES))
        self.no((ODD_ONES,))

    def test_things_of_every_kind(self):
        for thing in no_wholes() + [0, 1, -1, 10 ** 300, "machine", "abc", (Strange(), Strange(), Strange())]:
            self.no(thing)
        for one, two, three in itertools.product(no_wholes(), repeat=3):
            self.no((one, two, three))
        around = []
        around.append(around)
        self.no(around)
        self.no((1, (around,), (0,)))

    def test_many_rooms(self):
        rooms = tuple(((place + 1) % 1000, 999) for place in range(1000))
        self.yes((2, rooms, tuple(range(1000))))
        self.no((2, rooms[:-1], tuple(range(999))))

    def test_lists_stay_as_they_are_and_asked_again(self):
        thing = [1, [[0]], [0]]
        self.no(thing)
        self.assertEqual([1, [[0]], [0]], thing)
        self.no(thing)
        for machine in ALL:
            self.yes(machine)


class RoomTest(Asking, unittest.TestCase):
    def test_from_room_0(self):
        self.whole(0, room(REST_OF_THREE, ()))
        self.whole(2, room(REST_OF_THREE, (1, 0)))
        self.whole(0, room(REST_OF_THREE, [1, 1]))
        self.whole(1, room(REST_OF_THREE, (1, 0, 0)))

    def test_from_another_room(self):
        for start in range(3):
            self.whole(start, room(REST_OF_THREE, (), start))
            self.whole(start, room(REST_OF_THREE, [], start))
        self.whole(2, room(REST_OF_THREE, (0,), 1))
        self.whole(0, room(REST_OF_THREE, (1,), 1))
        self.whole(1, room(REST_OF_THREE, [0], 2))
        self.whole(1, room(REST_OF_THREE, row=(1, 0), start=2))
        self.whole(1, room((2, ((0, 0), (0, 1)), (5, 6)), (1, 1), 1))

    def test_each_row_from_each_room(self):
        for machine in (ODD_ONES, REST_OF_THREE, FIRST_FIGURE, ONE_FIGURE):
            for start in range(len(machine[1])):
                for row in all_rows(machine[0], 5):
                    self.whole(plain_room(machine, row, start), room(machine, row, start))
                    self.whole(plain_room(machine, row, start), room(machine, list(row), start))

    def test_in_two_goes(self):
        for one, other in itertools.product(all_rows(2, 3), repeat=2):
            self.whole(room(REST_OF_THREE, one + other), room(REST_OF_THREE, other, room(REST_OF_THREE, one)))

    def test_long_rows_and_the_widest(self):
        self.whole(1, room(ODD_ONES, (1,) * 999))
        self.whole(0, room(ODD_ONES, [1] * 1000))
        self.whole(1, room(WIDEST, (999, 0, 999)))
        self.whole(0, room(WIDEST, (999, 0, 0)))

    def test_lists_stay_as_they_are(self):
        row = [1, 0, 1]
        self.whole(2, room(REST_OF_THREE, row))
        self.assertEqual([1, 0, 1], row)
        self.whole(2, room(REST_OF_THREE, row))


class ToldTest(Asking, unittest.TestCase):
    def test_signs_of_rows(self):
        self.whole(9, told(FIRST_FIGURE, ()))
        self.whole(0, told(FIRST_FIGURE, (0, 2)))
        self.whole(1, told(FIRST_FIGURE, [1, 0, 2]))
        self.whole(999999, told(FIRST_FIGURE, (2,)))
        self.whole(5, told(ONE_FIGURE, ()))
        self.whole(6, told(ONE_FIGURE, (0, 0, 0)))
        self.whole(7, told(ONE_ROOM, (1, 2, 3)))

    def test_each_row(self):
        for machine in (ODD_ONES, REST_OF_THREE, FIRST_FIGURE, ONE_FIGURE):
            for row in all_rows(machine[0], 5):
                self.whole(machine[2][plain_room(machine, row, 0)], told(machine, row))

    def test_lists_stay_as_they_are(self):
        row = [2, 0, 1]
        self.whole(999999, told(FIRST_FIGURE, row))
        self.assertEqual([2, 0, 1], row)
        self.whole(999999, told(FIRST_FIGURE, row))
        row[0] = 1
        self.whole(1, told(FIRST_FIGURE, row))


class SignsTest(Asking, unittest.TestCase):
    def test_at_a_number(self):
        self.wholes((0, 1, 1, 0, 1, 0, 0, 1), tuple(sign_at(ODD_ONES, number) for number in range(8)))
        self.wholes((9, 1, 999999, 0, 1, 999999, 0), tuple(sign_at(FIRST_FIGURE, number) for number in range(7)))

    def test_from_the_top(self):
        self.wholes(tuple(number % 3 for number in range(200)), tuple(sign_down(REST_OF_THREE, n) for n in range(200)))
        self.wholes((9, 1, 999999, 1, 1, 1, 999999), tuple(sign_down(FIRST_FIGURE, number) for number in range(7)))

    def test_each_number(self):
        for machine in (ODD_ONES, REST_OF_THREE, FIRST_FIGURE, ONE_ROOM, WIDEST):
            for number in list(range(300)) + [999999, 999000, 10 ** 299 + 7]:
                row = plain_figures(number, machine[0])
                self.whole(machine[2][plain_room(machine, row, 0)], sign_at(machine, number))
                self.whole(machine[2][plain_room(machine, row[::-1], 0)], sign_down(machine, number))

    def test_nought_has_the_sign_of_room_0(self):
        for machine in (ODD_ONES, REST_OF_THREE, FIRST_FIGURE, ONE_ROOM, WIDEST):
            self.whole(machine[2][0], sign_at(machine, 0))
            self.whole(machine[2][0], sign_down(machine, 0))

    def test_great_numbers(self):
        for number in (10 ** 299, 10 ** 299 + 1, 2 ** 990 - 1):
            self.whole(bin(number).count("1") % 2, sign_at(ODD_ONES, number))
            self.whole(number % 3, sign_down(REST_OF_THREE, number))

    def test_refused_numbers(self):
        for machine in ALL:
            for number in no_wholes() + [-1, -10 ** 299]:
                self.refused(NoFigures, sign_at, machine, number)
                self.refused(NoFigures, sign_down, machine, number)

    def test_a_wide_of_1_refuses_each_number(self):
        for machine in (ONE_FIGURE, (1, ((0,),), (0,))):
            for number in (0, 1, 2, 10 ** 299):
                self.refused(NoFigures, sign_at, machine, number)
                self.refused(NoFigures, sign_down, machine, number)

    def test_asked_again(self):
        before = [(sign_at(machine, 11), sign_down(machine, 11)) for machine in (ODD_ONES, REST_OF_THREE)]
        self.refused(NoFigures, sign_at, ODD_ONES, None)
        after = [(sign_at(machine, 11), sign_down(machine, 11)) for machine in (ODD_ONES, REST_OF_THREE)]
        self.assertEqual(before, after)


class IsSteadyTest(unittest.TestCase):
    def test_steady(self):
        for machine in (ODD_ONES, ONE_ROOM, (1, ((0,),), (999999,)), (1, ((1,), (0,)), (3, 3))):
            self.assertIs(True, is_steady(machine))

    def test_not_steady(self):
        for machine in (REST_OF_THREE, FIRST_FIGURE, ONE_FIGURE, WIDEST, (1, ((1,), (0,)), (3, 4))):
            self.assertIs(False, is_steady(machine))

    def test_not_steady_far_behind(self):
        rows = tuple((place, place + 1) for place in range(998)) + ((999, 998), (999, 999))
        self.assertIs(True, is_steady((2, rows, (0,) * 1000)))
        self.assertIs(False, is_steady((2, rows, (0,) * 999 + (1,))))

    def test_only_the_nought_counts(self):
        self.assertIs(True, is_steady((3, ((0, 1, 1), (1, 0, 0)), (0, 1))))
        self.assertIs(False, is_steady((3, ((1, 0, 0), (0, 1, 1)), (0, 1))))

    def test_another_room_of_the_same_sign_is_steady(self):
        self.assertIs(True, is_steady((2, ((1, 2), (0, 2), (2, 2)), (4, 4, 5))))

    def test_rooms_to_which_no_row_leads(self):
        self.assertIs(True, is_steady((2, ((0, 0), (0, 1)), (0, 1))))
        self.assertIs(True, is_steady((2, ((0, 1), (1, 0), (3, 0), (2, 1)), (0, 1, 2, 3))))
        self.assertIs(False, is_steady((2, ((0, 1), (2, 0), (2, 0), (3, 3)), (0, 1, 2, 3))))

    def test_each_small_machine_as_told(self):
        for machine in itertools.chain(
            small_machines(1, 3, 2), small_machines(2, 2, 3), small_machines(3, 2, 2), small_machines(2, 3, 2)
        ):
            plain = all(told(machine, row) == told(machine, row + (0,)) for row in all_rows(machine[0], 2))
            self.assertIs(plain, is_steady(machine), machine)

    def test_asked_again(self):
        before = [is_steady(machine) for machine in ALL]
        self.assertEqual(before, [is_steady(machine) for machine in ALL])

    def test_noughts_on_top_make_no_difference(self):
        for number in range(40):
            row = plain_figures(number, 2)
            for noughts in range(5):
                self.assertEqual(sign_at(ODD_ONES, number), told(ODD_ONES, row + (0,) * noughts))


if __name__ == "__main__":
    unittest.main()
