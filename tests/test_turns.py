import itertools
import unittest

from asking import Asking, no_wholes
from figuretell.errors import NoPower, TooWide
from figuretell.leasts import least
from figuretell.machines import is_steady, sign_at, sign_down
from figuretell.turns import grown_row, lowered, raised, turned
from samples import (
    FIRST_FIGURE, LONG_WAY, ODD_ONES, ONE_FIGURE, ONE_ROOM, REST_OF_THREE, TWICE, WIDEST, filled, made_machines,
    places_reached, plain_figures, plain_told, ring, small_machines, steady_machines,
)


def ahead_by(places):
    """1 where the row's figure at that place, from the row's begin on, is 1; it has a room for each place to it."""
    rows = [(here + 1, here + 1) for here in range(places)] + [(places + 1, places + 2)]
    return (2, tuple(rows) + ((places + 1,) * 2, (places + 2,) * 2), (0,) * (places + 2) + (1,))


class TurnedTest(Asking, unittest.TestCase):
    def check(self, machine, longest):
        answer = turned(machine, 1000)
        self.is_least(machine[0], answer)
        self.tells(answer, longest, lambda row: plain_told(machine, row[::-1]))
        self.assertEqual(answer, self.just_most(len(answer[1]), turned, machine))
        self.assertEqual(least(machine), turned(answer, 1000))
        return answer

    def test_ordinary_machines(self):
        self.assertEqual(ODD_ONES, self.check(ODD_ONES, 6))
        # What is left by three, of the lowest figure first: room by room the rest so far and the next weight.
        self.assertEqual(6, len(self.check(REST_OF_THREE, 8)[1]))
        # The first figure, turned, is the last one.
        last = (3, ((1, 2, 3),) * 4, (9, 0, 1, 999999))
        self.assertEqual(last, self.check(FIRST_FIGURE, 5))
        self.assertEqual(FIRST_FIGURE, self.check(last, 5))

    def test_small_and_made_machines(self):
        for machine in itertools.chain(small_machines(2, 2, 3), small_machines(1, 3, 2), made_machines(40, 2, 4, 2)):
            self.check(machine, 6)
        for machine in made_machines(20, 3, 3, 3):
            self.check(machine, 5)

    def test_one_room_and_a_wide_of_1(self):
        self.assertEqual(ONE_ROOM, self.check(ONE_ROOM, 2))
        self.assertEqual((1, ((0,),), (2,)), self.check((1, ((0,),), (2,)), 5))
        # Of a wide of 1 each row is the same backwards.
        for machine in (ONE_FIGURE, ring(6, (0, 1, 1)), ring(5, (3, 1, 4, 1, 5))):
            self.assertEqual(least(machine), self.check(machine, 20))

    def test_rooms_to_which_no_row_leads(self):
        self.assertEqual((2, ((0, 0),), (4,)), self.check((2, ((0, 0), (2, 1), (0, 1)), (4, 5, 6)), 5))

    def test_the_sign_from_the_top_is_the_sign_at_each_number(self):
        for machine in list(made_machines(20, 2, 4, 3)) + [ODD_ONES, REST_OF_THREE, FIRST_FIGURE]:
            answer = turned(machine)
            for number in list(range(70)) + [10 ** 20, 10 ** 299 + 7]:
                self.whole(sign_at(machine, number), sign_down(answer, number))
                self.whole(sign_down(machine, number), sign_at(answer, number))

    def test_far_more_rooms_than_before(self):
        # The last but so many figures must all be kept, and those there aren't count as noughts.
        for places in range(7):
            answer = self.check(ahead_by(places), 9)
            self.assertEqual(2 ** (places + 1), len(answer[1]))

    def test_far_fewer_rooms_than_before(self):
        for places in (4, 6):
            many = turned(ahead_by(places), 1000)
            self.assertEqual(least(ahead_by(places)), self.just_most(len(least(ahead_by(places))[1]), turned, many))

    def test_counted_are_the_rooms_of_the_turned_machine(self):
        # 1000 rooms that are all alike, and rooms to which no row leads, are no hindrance.
        self.assertEqual((2, ((0, 0),), (6,)), turned((2, LONG_WAY[1], (6,) * 1000), 1))
        self.assertEqual(ring(3, (0, 0, 1)), self.just_most(3, turned, ring(999, (0, 0, 1))))

    def test_most_is_200_where_nothing_is_said(self):
        self.assertEqual(200, len(turned(ring(200, range(200)))[1]))
        self.too_great(200, turned, ring(201, range(201)))
        self.assertEqual(128, len(turned(ahead_by(6))[1]))
        self.too_great(200, turned, ahead_by(7))

    def test_no_end_in_sight(self):
        self.too_great(5000, turned, ahead_by(300), 5000)

    def test_great_machines(self):
        self.assertEqual(1000, len(self.just_most(1000, turned, LONG_WAY)[1]))
        backwards = turned(WIDEST)
        for row in ((), (0,), (999,), (999, 0), (0, 0), (0, 999, 5), (5, 999, 0, 0)):
            self.whole(plain_told(WIDEST, row[::-1]), plain_told(backwards, row))

    def test_by_name_and_again(self):
        before = turned(most=6, machine=REST_OF_THREE)
        self.too_great(5, turned, REST_OF_THREE, 5)
        turned(ODD_ONES)
        self.assertEqual(before, turned(REST_OF_THREE))


class RaisedTest(Asking, unittest.TestCase):
    def check(self, machine, power, longest):
        answer = raised(machine, power)
        wide = machine[0]
        self.is_least(wide ** power, answer)

        def spread(row):
            return [low for figure in row for low in filled(plain_figures(figure, wide), power)]

        self.tells(answer, longest, lambda row: plain_told(machine, spread(row)))
        return answer

    def test_ordinary_machines(self):
        self.assertEqual((4, ((0, 1, 1, 0), (1, 0, 0, 1)), (0, 1)), self.check(ODD_ONES, 2, 4))
        answer = self.check(REST_OF_THREE, 2, 4)
        self.assertEqual((4, ((0, 1, 2, 0), (1, 2, 0, 1), (2, 0, 1, 2)), (0, 2, 1)), answer)

    def test_a_power_of_1(self):
        for machine in list(made_machines(30, 2, 5, 2)) + [FIRST_FIGURE, ONE_ROOM, WIDEST, LONG_WAY]:
            self.assertEqual(least(machine), raised(machine, 1))

    def test_made_machines(self):
        for machine in itertools.chain(small_machines(2, 2, 2), made_machines(20, 2, 5, 3)):
            self.check(machine, 2, 3)
            self.check(machine, 3, 2)
        for machine in made_machines(20, 3, 4, 3):
            self.check(machine, 2, 2)

    def test_rooms_between_the_whole_figures_are_not_kept(self):
        # The sign is whether the row is of odd length.
        odd_long = (2, ((1, 1), (0, 0)), (0, 1))
        self.assertEqual((4, ((0,) * 4,), (0,)), self.check(odd_long, 2, 3))
        self.assertEqual((8, ((1,) * 8, (0,) * 8), (0, 1)), self.check(odd_long, 3, 2))

    def test_a_steady_machine_tells_the_same_of_each_number(self):
        for machine in list(steady_machines(20, 2, 4, 3)) + [ODD_ONES]:
            for power in (1, 2, 3, 9):
                answer = raised(machine, power)
                self.assertTrue(is_steady(answer))
                for number in list(range(80)) + [10 ** 20, 10 ** 299 + 7]:
                    self.whole(sign_at(machine, number), sign_at(answer, number))

    def test_step_by_step_it_is_the_same(self):
        for machine in made_machines(20, 2, 5, 3):
            self.assertEqual(raised(machine, 6), raised(raised(machine, 2), 3))
            self.assertEqual(raised(machine, 6), raised(raised(machine, 3), 2))

    def test_just_1000_and_more(self):
        for wide, power in ((10, 3), (1000, 1), (2, 9), (3, 6), (31, 2), (5, 4)):
            answer = raised((wide, ((0,) * wide,), (7,)), power)
            self.assertEqual((wide ** power, ((0,) * wide ** power,), (7,)), answer)
        last = (10, (tuple(range(10)),) * 10, tuple(range(10)))
        top = raised(last, 3)
        self.is_least(1000, top)
        for figure in range(1000):
            self.whole(figure // 100, plain_told(top, (figure,)))
            self.whole(figure // 100, plain_told(top, (123, figure)))
        for wide, power in ((10, 4), (1000, 2), (2, 10), (3, 7), (32, 2), (501, 2), (2, 300), (1000, 300)):
            self.refused(TooWide, raised, (wide, ((0,) * wide,), (7,)), power)

    def test_great_machines(self):
        answer = raised(LONG_WAY, 2)
        self.is_a_machine(4, answer)
        self.assertEqual(1000, len(answer[1]))
        for row in ((), (0,) * 499, (0,) * 500, (1,) * 998, (1,) * 999, (2,) * 998, (2,) * 999, (3,) * 1000):
            ups = sum(2 - bin(figure).count("1") for figure in row)
            self.whole(int(ups >= 999), plain_told(answer, row))

    def test_by_name_and_again(self):
        before = raised(power=3, machine=REST_OF_THREE)
        self.refused(TooWide, raised, REST_OF_THREE, 10)
        self.assertEqual(before, raised(REST_OF_THREE, 3))


def groups_reached(machine, base, power):
    """How many pairs are reached of a room and a row of fewer than power figures."""

    def step(place, figure):
        here, row = place
        row = row + (figure,)
        if len(row) < power:
            return (here, row)
        return (machine[1][here][sum(low * base ** at for at, low in enumerate(row))], ())

    return len(places_reached((0, ()), step, base))


class LoweredTest(Asking, unittest.TestCase):
    def check(self, machine, base, power):
        answer = self.just_most(groups_reached(machine, base, power), lowered, machine, base)
        self.is_least(base, answer)
        self.assertTrue(is_steady(answer))
        for number in list(range(150)) + [10 ** 20, 10 ** 20 + 1, 10 ** 299 + 7]:
            self.whole(sign_at(machine, number), sign_at(answer, number))
        return answer

    def test_ordinary_machines(self):
        odd = (4, ((0, 1, 1, 0), (1, 0, 0, 1)), (0, 1))
        self.assertEqual(ODD_ONES, self.check(odd, 2, 2))
        self.check(TWICE, 2, 2)

    def test_a_power_of_1(self):
        for machine in list(steady_machines(20, 2, 5, 3)) + [ODD_ONES]:
            self.assertEqual(least(machine), self.check(machine, 2, 1))
        self.assertEqual(ONE_ROOM, self.check(ONE_ROOM, 10, 1))
        self.assertEqual((1000, ((0,) * 1000,), (7,)), lowered((1000, ((0,) * 1000,), (7,)), 1000, 1))

    def test_made_machines(self):
        for machine in steady_machines(30, 4, 4, 3):
            self.check(machine, 2, 2)
            self.assertEqual(least(machine), self.check(machine, 4, 1))
        for machine in steady_machines(15, 8, 3, 2):
            self.check(machine, 2, 3)
        for machine in steady_machines(15, 9, 3, 3):
            self.check(machine, 3, 2)
        for machine in steady_machines(10, 16, 3, 3):
            self.check(machine, 2, 4)
            self.check(machine, 4, 2)

    def test_there_and_back(self):
        for machine in list(steady_machines(20, 2, 4, 3)) + [ODD_ONES]:
            for power in (1, 2, 3, 4):
                self.assertEqual(least(machine), lowered(raised(machine, power), 2, 1000))
        for machine in steady_machines(20, 4, 4, 3):
            self.assertEqual(least(machine), raised(lowered(machine, 2), 2))

    def test_one_room(self):
        for wide, base, power in ((4, 2, 2), (512, 2, 9), (1000, 10, 3), (961, 31, 2)):
            machine = (wide, ((0,) * wide,), (999999,))
            self.assertEqual((base, ((0,) * base,), (999999,)), self.check(machine, base, power))

    def test_no_power(self):
        for wide, bases in (
            (1, (2, 3, 10, 1000)), (2, (3, 4, 10)), (4, (3, 8, 16, 5)), (6, (2, 3, 4, 5, 7, 36)), (8, (4, 16, 3)),
            (10, (2, 5, 9, 11, 100)), (16, (8, 3, 32)), (1000, (2, 5, 100, 999, 1001, 1000000, 10 ** 299)),
        ):
            machine = (wide, ((0,) * wide,), (1,))
            for base in bases:
                self.refused(NoPower, lowered, machine, base)

    def test_what_is_no_base_is_no_power(self):
        for wide in (1, 2, 4, 10, 1000):
            machine = (wide, ((0,) * wide,), (1,))
            for base in no_wholes() + [1, 0, -1, -2, -wide, -10 ** 299]:
                self.refused(NoPower, lowered, machine, base)
                self.refused(NoPower, lowered, machine, base, 1)

    def test_no_power_first(self):
        # 201 rooms are more than most, but that is asked later.
        rows = tuple(((here + 1) % 201,) * 4 for here in range(201))
        machine = (4, rows, (1,) * 201)
        self.too_great(200, lowered, machine, 2)
        self.too_great(200, lowered, machine, 4)
        for base in (None, True, 0, 1, 3, 16):
            self.refused(NoPower, lowered, machine, base)

    def test_pairs_are_counted_of_the_machine_as_it_is(self):
        rows = tuple(((here + 1) % 7,) * 4 for here in range(7))
        self.assertEqual((2, ((0, 0),), (5,)), self.just_most(21, lowered, (4, rows, (5,) * 7), 2))
        self.assertEqual((4, ((0,) * 4,), (5,)), self.just_most(7, lowered, (4, rows, (5,) * 7), 4))

    def test_rooms_to_which_no_row_leads_are_not_counted(self):
        machine = (4, ((0,) * 4, (2,) * 4, (1, 0, 1, 1)), (5, 6, 6))
        self.assertEqual((2, ((0, 0),), (5,)), self.just_most(3, lowered, machine, 2))

    def test_most_is_200_where_nothing_is_said(self):
        for rooms in (66, 67, 200):
            machine = (4, tuple(((here + 1) % rooms,) * 4 for here in range(rooms)), (5,) * rooms)
            if rooms > 66:
                self.too_great(200, lowered, machine, 2)
            else:
                self.assertEqual((2, ((0, 0),), (5,)), lowered(machine, 2))
            self.assertEqual((4, ((0,) * 4,), (5,)), lowered(machine, 4))
        self.too_great(200, lowered, (1000, ((0,) * 999 + (1,), (1,) * 1000), (0, 0)), 10)

    def test_the_widest(self):
        machine = (1000, (tuple(int(figure == 123) for figure in range(1000)), (1,) * 1000), (0, 1))
        answer = lowered(machine, 10, 222)
        self.too_great(221, lowered, machine, 10, 221)
        self.is_least(10, answer)
        self.assertTrue(is_steady(answer))
        for number in list(range(122, 125)) + [1230, 123000, 999123, 123999, 231, 321, 912399]:
            self.whole(sign_at(machine, number), sign_at(answer, number))

    def test_by_name_and_again(self):
        before = lowered(most=100, base=2, machine=TWICE)
        self.refused(NoPower, lowered, TWICE, 3)
        self.too_great(2, lowered, TWICE, 2, 2)
        self.assertEqual(before, lowered(TWICE, 2))


def plain_row(rules, signs, long):
    kinds = [0]
    while len(kinds) < long:
        kinds = [kind for here in kinds for kind in rules[here]]
    return tuple(signs[kind] for kind in kinds[:long])


def all_rules(wide, kinds):
    for machine in small_machines(wide, kinds, 1):
        if machine[1][0][0] == 0:
            yield machine[1]


class GrownRowTest(Asking, unittest.TestCase):
    def test_ordinary_rows(self):
        self.wholes((0, 1, 1, 0, 1, 0, 0, 1), grown_row(((0, 1), (1, 0)), (0, 1), 8))
        self.wholes((5, 7, 5, 5, 5, 7, 5, 7), grown_row(((0, 1), (0, 0)), (5, 7), 8))
        self.wholes((0, 1, 2, 1, 2, 0, 2, 0, 1, 1), grown_row(((0, 1, 2), (1, 2, 0), (2, 0, 1)), (0, 1, 2), 10))

    def test_how_long(self):
        for long in (0, 1, 2, 3, 4, 5, 999, 1000):
            self.assertEqual(long, len(grown_row(((0, 1), (1, 0)), (0, 1), long)))
        self.wholes((), grown_row(((0, 0),), (3,), 0))
        self.wholes((3,), grown_row(((0, 0),), (3,), 1))
        self.wholes((3,) * 1000, grown_row(((0, 0),), (3,), 1000))

    def test_each_turn_replaces_each_kind(self):
        for wide, kinds in ((2, 2), (2, 3), (3, 2)):
            for rules in all_rules(wide, kinds):
                signs = (9, 999999, 0)[:kinds]
                for long in (0, 1, 7, 30):
                    self.wholes(plain_row(rules, signs, long), grown_row(rules, signs, long))

    def test_it_is_the_sign_from_the_top_and_turned_it_is_steady(self):
        for rules in itertools.chain(all_rules(2, 2), itertools.islice(all_rules(2, 3), 0, None, 7)):
            signs = (4, 4, 6)[:len(rules)]
            machine = (2, rules, signs)
            backwards = turned(machine)
            self.assertTrue(is_steady(backwards))
            row = grown_row(rules, signs, 40)
            self.wholes(tuple(sign_down(machine, number) for number in range(40)), row)
            self.wholes(tuple(sign_at(backwards, number) for number in range(40)), row)

    def test_wide_rules(self):
        rules = (tuple(range(1000)),) + tuple((here,) * 1000 for here in range(1, 1000))
        self.wholes(tuple(range(1000)), grown_row(rules, tuple(range(1000)), 1000))
        rules = ((0,) + (1,) * 39, (2,) * 40, (0,) * 40)
        self.wholes(plain_row(rules, (7, 8, 9), 1000), grown_row(rules, (7, 8, 9), 1000))

    def test_by_name_and_again(self):
        before = grown_row(long=50, signs=(0, 1), rules=((0, 1), (1, 0)))
        grown_row(((0, 1), (0, 0)), (5, 7), 8)
        self.assertEqual(before, grown_row(((0, 1), (1, 0)), (0, 1), 50))


if __name__ == "__main__":
    unittest.main()
