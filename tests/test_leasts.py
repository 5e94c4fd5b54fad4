import itertools
import unittest

from asking import Asking, all_rows
from figuretell.leasts import leads, least, parting
from samples import (
    ALL, FIRST_FIGURE, LONG_WAY, ODD_ONES, ONE_FIGURE, ONE_ROOM, REST_OF_THREE, WIDEST, apart_at, made_machines,
    numbers_below, plain_reached, plain_room, plain_told, ring, small_machines,
)


def some_small_machines():
    return itertools.chain(
        small_machines(1, 1, 2), small_machines(1, 3, 2), small_machines(2, 2, 3), small_machines(3, 2, 2),
        small_machines(2, 3, 2), made_machines(60, 2, 5, 2), made_machines(40, 3, 4, 3), made_machines(20, 2, 6, 4),
    )


class LeadsTest(Asking, unittest.TestCase):
    def rows(self, expected, answer):
        self.assertIs(tuple, type(answer))
        self.assertEqual(len(expected), len(answer))
        for row, told in zip(expected, answer):
            if row is None:
                self.assertIsNone(told)
            else:
                self.wholes(row, told)

    def test_ordinary_machines(self):
        self.rows(((), (1,)), leads(ODD_ONES))
        self.rows(((), (1,), (1, 0)), leads(REST_OF_THREE))
        self.rows(((), (0,), (1,), (2,)), leads(FIRST_FIGURE))
        self.rows(((), (0,)), leads(WIDEST))

    def test_one_room(self):
        self.rows(((),), leads(ONE_ROOM))
        self.rows(((),), leads((1, ((0,),), (5,))))

    def test_a_wide_of_1(self):
        self.rows(((), (0,), (0, 0)), leads(ONE_FIGURE))
        self.rows(((), (0, 0), (0,)), leads((1, ((2,), (1,), (1,)), (0, 0, 0))))

    def test_rooms_to_which_no_row_leads(self):
        self.rows(((), None), leads((2, ((0, 0), (0, 1)), (0, 1))))
        self.rows(((), None, (1,), None), leads((2, ((0, 2), (3, 0), (2, 2), (1, 1)), (0, 1, 2, 3))))

    def test_of_two_figures_the_lower_one(self):
        self.rows(((), (1,), (0,)), leads((3, ((2, 1, 1), (1, 1, 1), (2, 2, 2)), (0, 0, 0))))
        self.rows(((), (0,), (1,), (0, 1)), leads((2, ((1, 2), (1, 3), (3, 3), (3, 3)), (0, 0, 0, 0))))

    def test_a_shorter_row_is_ahead_of_lower_figures(self):
        self.rows(((), (0,), (2,)), leads((3, ((1, 0, 2), (2, 2, 2), (0, 0, 0)), (0, 0, 0))))

    def test_each_lead_is_the_first_row_that_leads_there(self):
        for machine in some_small_machines():
            rooms = len(machine[1])
            firsts = {}
            for row in all_rows(machine[0], rooms - 1):
                firsts.setdefault(plain_room(machine, row), row)
            self.rows(tuple(firsts.get(here) for here in range(rooms)), leads(machine))

    def test_long_leads(self):
        self.rows(tuple((0,) * here for here in range(1000)), leads(LONG_WAY))

    def test_many_figures(self):
        rows = tuple(tuple((here + figure) % 1000 for figure in range(1000)) for here in range(1000))
        self.rows(((),) + tuple((figure,) for figure in range(1, 1000)), leads((1000, rows, (0,) * 1000)))

    def test_asked_again(self):
        before = [leads(machine) for machine in ALL]
        self.assertEqual(before, [leads(machine) for machine in ALL])


class PartingTest(Asking, unittest.TestCase):
    def parts(self, long, machine, one, other):
        """The parting is a row of that length that leads the two rooms to unlike signs."""
        row = parting(machine, one, other)
        self.wholes(row, row)
        self.assertEqual(long, len(row))
        signs = machine[2]
        self.assertNotEqual(signs[plain_room(machine, row, one)], signs[plain_room(machine, row, other)])

    def test_unlike_signs_are_parted_by_no_figures(self):
        self.wholes((), parting(ODD_ONES, 0, 1))
        self.wholes((), parting(ODD_ONES, 1, 0))
        self.wholes((), parting(ONE_FIGURE, 0, 2))
        self.wholes((), parting((2, ((0, 0), (1, 1)), (5, 999999)), 0, 1))

    def test_a_room_and_itself(self):
        for machine in ALL:
            for here in range(len(machine[1])):
                self.assertIsNone(parting(machine, here, here))

    def test_rooms_that_no_row_parts(self):
        self.assertIsNone(parting(ONE_FIGURE, 1, 2))
        self.assertIsNone(parting((2, ((1, 2), (2, 0), (0, 1)), (4, 4, 4)), 0, 2))

    def test_rooms_to_which_no_row_leads(self):
        machine = (2, ((0, 0), (0, 2), (1, 3), (0, 3), (0, 3)), (0, 0, 0, 1, 0))
        self.wholes((), parting(machine, 0, 3))
        self.wholes((1,), parting(machine, 2, 1))
        self.wholes((1, 1), parting(machine, 1, 0))
        self.parts(1, machine, 4, 1)
        self.parts(1, machine, 4, 0)
        self.wholes((0, 1, 1), parting(machine, 4, 2))
        self.assertIsNone(parting((2, ((0, 0), (1, 1), (1, 2)), (0, 3, 3)), 1, 2))

    def test_a_wide_of_1(self):
        machine = (1, ((1,), (2,), (3,), (0,)), (0, 0, 0, 1))
        self.wholes((0, 0), parting(machine, 0, 1))
        self.wholes((0,), parting(machine, 0, 2))
        self.wholes((0, 0), parting(machine, 1, 0))
        self.wholes((), parting(machine, 0, 3))

    def test_each_is_a_shortest_row(self):
        for machine in some_small_machines():
            rooms = len(machine[1])
            shortest = apart_at(machine, rooms)
            for one, other in itertools.product(range(rooms), repeat=2):
                if (one, other) in shortest:
                    self.parts(shortest[one, other], machine, one, other)
                else:
                    self.assertIsNone(parting(machine, one, other))

    def test_no_shorter_row_parts_them(self):
        for machine in itertools.chain(small_machines(2, 3, 2), made_machines(30, 2, 6, 2)):
            signs = machine[2]
            for one, other in itertools.combinations(range(len(signs)), 2):
                row = parting(machine, one, other)
                shorter = len(signs) if row is None else len(row) - 1
                for short in all_rows(machine[0], shorter):
                    self.assertEqual(signs[plain_room(machine, short, one)], signs[plain_room(machine, short, other)])

    def test_long_partings(self):
        self.wholes((0,) * 998, parting(LONG_WAY, 0, 1))
        self.wholes((0,) * 998, parting(LONG_WAY, 1, 0))
        self.wholes((0,) * 500, parting(LONG_WAY, 0, 499))
        self.wholes((), parting(LONG_WAY, 999, 0))
        alike = (2, LONG_WAY[1], (1,) * 1000)
        self.assertIsNone(parting(alike, 0, 999))

    def test_asked_again(self):
        for machine in list(made_machines(20, 3, 6, 2)) + [LONG_WAY]:
            before = [parting(machine, 0, other) for other in range(6)]
            parting(ODD_ONES, 0, 1)
            self.assertEqual(before, [parting(machine, 0, other) for other in range(6)])


class LeastTest(Asking, unittest.TestCase):
    def check(self, machine, longest):
        answer = least(machine)
        self.is_least(machine[0], answer)
        self.tells(answer, longest, lambda row: plain_told(machine, row))
        return answer

    def test_ordinary_machines(self):
        for machine in (ODD_ONES, REST_OF_THREE, FIRST_FIGURE):
            self.assertEqual(machine, self.check(machine, 5))
        self.assertEqual(WIDEST, least(WIDEST))
        self.assertEqual((1, ((1,), (1,)), (5, 6)), self.check(ONE_FIGURE, 5))

    def test_one_room(self):
        self.assertEqual(ONE_ROOM, least(ONE_ROOM))
        self.assertEqual((1, ((0,),), (999999,)), self.check((1, ((0,),), (999999,)), 5))

    def test_rooms_to_which_no_row_leads(self):
        self.assertEqual((2, ((0, 0),), (4,)), self.check((2, ((0, 0), (0, 1)), (4, 1)), 5))
        self.assertEqual(ODD_ONES, self.check((2, ((0, 2), (3, 0), (2, 0), (1, 1)), (0, 1, 1, 5)), 5))

    def test_alike_rooms_become_one(self):
        self.assertEqual((2, ((0, 0),), (8,)), self.check((2, ((1, 2), (2, 0), (0, 1)), (8, 8, 8)), 5))
        self.assertEqual(ODD_ONES, self.check((2, ((2, 1), (3, 2), (0, 3), (1, 0)), (0, 1, 0, 1)), 5))

    def test_rooms_are_numbered_anew(self):
        rows = ((0, 2), (2, 1), (1, 0))
        self.assertEqual(REST_OF_THREE, self.check((2, rows, (0, 2, 1)), 5))

    def test_a_wide_of_1(self):
        self.assertEqual(ring(3, (0, 0, 1)), self.check(ring(12, (0, 0, 1)), 40))
        self.assertEqual(ring(4, (2, 2, 2, 9)), self.check(ring(1000, (2, 2, 2, 9)), 40))

    def test_each_small_machine(self):
        for machine in some_small_machines():
            answer = self.check(machine, 5)
            self.assertEqual(answer, least(answer))
            self.assertLessEqual(len(answer[1]), len(plain_reached(machine)))

    def test_as_few_rooms_as_there_are_ways_to_go_on(self):
        for machine in itertools.chain(small_machines(2, 3, 2), made_machines(30, 2, 5, 2)):
            rows = list(all_rows(2, len(machine[1])))
            futures = set()
            for here in plain_reached(machine):
                futures.add(tuple(machine[2][plain_room(machine, row, here)] for row in rows))
            self.assertEqual(len(futures), len(least(machine)[1]))

    def test_equal_just_if_they_tell_the_same(self):
        for wide, rooms, signs in ((2, 2, 2), (1, 3, 2), (2, 3, 2)):
            rows = list(all_rows(wide, 2 * rooms - 1))
            by_signs = {}
            for machine in small_machines(wide, rooms, signs):
                by_signs.setdefault(tuple(plain_told(machine, row) for row in rows), set()).add(least(machine))
            self.assertEqual([1] * len(by_signs), [len(answers) for answers in by_signs.values()])
            self.assertEqual(len(by_signs), len(set.union(*by_signs.values())))

    def test_groups_that_part_themselves(self):
        rows = ((0, 4, 3, 4), (5, 4, 5, 3), (3, 2, 3, 3), (2, 2, 4, 4), (4, 2, 1, 3), (2, 0, 5, 1))
        self.assertEqual(6, len(self.check((4, rows, (0, 1, 0, 0, 1, 1)), 4)[1]))
        rows = ((2, 0, 3), (1, 0, 4), (5, 2, 3), (5, 3, 1), (5, 6, 3), (2, 2, 0), (1, 3, 2))
        self.assertEqual(7, len(self.check((3, rows, (2, 0, 1, 1, 1, 0, 0)), 5)[1]))

    def test_the_order_of_the_rooms_makes_no_difference(self):
        below = numbers_below(3)
        for wide, rows, signs in made_machines(30, 3, 8, 3):
            names = [0] + sorted(range(1, 8), key=lambda here: (below(1000), here))
            mixed_rows = [None] * 8
            mixed_signs = [None] * 8
            for here in range(8):
                mixed_rows[names[here]] = tuple(names[there] for there in rows[here])
                mixed_signs[names[here]] = signs[here]
            self.assertEqual(least((wide, rows, signs)), least((wide, tuple(mixed_rows), tuple(mixed_signs))))

    def test_great_machines(self):
        self.assertEqual(LONG_WAY, least(LONG_WAY))
        self.assertEqual((2, ((0, 0),), (6,)), least((2, LONG_WAY[1], (6,) * 1000)))
        rows = tuple(tuple((here * 2 + figure) % 1000 for figure in range(1000)) for here in range(1000))
        halves = least((1000, rows, tuple(here % 2 for here in range(1000))))
        self.assertEqual((1000, ((0, 1) * 500, (0, 1) * 500), (0, 1)), halves)

    def test_great_machines_of_many_rooms(self):
        below = numbers_below(8)
        small = (2, ((1, 2), (0, 3), (3, 0), (2, 1)), (0, 7, 2, 7))
        rows = []
        for here in range(1000):
            rows.append(tuple(small[1][here % 4][figure] + 4 * below(250) for figure in range(2)))
        self.assertEqual(least(small), least((2, tuple(rows), small[2] * 250)))
        self.is_least(2, least(small))

    def test_asked_again(self):
        before = [least(machine) for machine in ALL]
        self.assertEqual(before, [least(machine) for machine in ALL])


if __name__ == "__main__":
    unittest.main()
