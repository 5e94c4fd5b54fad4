import itertools
import unittest

from asking import Asking, all_rows
from figuretell.leasts import least
from figuretell.walks import Choosing, Narrowing, Pairing, Reading, Walk, grown
from samples import (
    ALL, FIRST_FIGURE, LONG_WAY, ODD_ONES, ONE_FIGURE, ONE_ROOM, REST_OF_THREE, TWICE, WIDEST, chosen_rooms,
    figure_of, made_machines, plain_figures, plain_reached, plain_room, plain_told, ring, without,
)


class Counting(Walk):
    """A walk that is none of the program's: what the figures come to, up to a last number."""

    def __init__(self, last):
        self.last = last

    def begin(self):
        return 0

    def step(self, place, figure):
        return min(place + figure, self.last)

    def sign(self, place):
        return place % 5


class Remembering(Walk):
    """Places of every kind: None, the whole row of figures as tuples in one another, and numbers."""

    def step(self, place, figure):
        if figure == 0:
            return place
        if isinstance(place, int):
            return place + figure if place < 5 else None
        return (place, figure) if place is None else -3

    def sign(self, place):
        return {None: 10, -3: 20}.get(place, 30)


class LongestWalk(Walk):
    """There is no end to its places."""

    def begin(self):
        return 0

    def step(self, place, figure):
        return place + 1


def went(walk, row):
    place = walk.begin()
    for figure in row:
        place = walk.step(place, figure)
    return place


def walk_tells(walk, row):
    return walk.sign(went(walk, row))


def mixed(one, other):
    return (3 * one + other) % 1000000


def plain_narrow(figure, base, at):
    """The figure without its part at a place."""
    parts = plain_figures(figure, base)
    return figure_of(without(parts, at), base)


class WalksTest(Asking, unittest.TestCase):
    def test_they_stand_under_walk(self):
        for kind in (Reading, Pairing, Narrowing, Choosing):
            self.assertEqual((Walk,), kind.__bases__)

    def test_walk_itself_has_one_place(self):
        walk = Walk()
        self.assertIsNone(walk.begin())
        for figure in (0, 1, 7, 999, 10 ** 299):
            self.assertIsNone(walk.step(None, figure))
        self.whole(0, walk.sign(None))

    def test_each_object_by_itself(self):
        walks = [Reading(machine) for machine in ALL]
        for machine, walk in zip(ALL, walks):
            self.whole(machine[2][0], walk.sign(walk.begin()))
        self.assertIsNone(Walk().begin())


class ReadingTest(Asking, unittest.TestCase):
    def test_places_are_rooms(self):
        walk = Reading(REST_OF_THREE)
        self.whole(0, walk.begin())
        for here in range(3):
            self.whole(here, walk.sign(here))
            for figure in range(2):
                self.whole(REST_OF_THREE[1][here][figure], walk.step(here, figure))

    def test_it_tells_what_the_machine_tells(self):
        for machine in (ODD_ONES, REST_OF_THREE, FIRST_FIGURE, ONE_FIGURE):
            walk = Reading(machine)
            for row in all_rows(machine[0], 5):
                self.whole(plain_room(machine, row), went(walk, row))
                self.whole(plain_told(machine, row), walk_tells(walk, row))
        self.whole(0, went(Reading(WIDEST), (999, 0, 0)))

    def test_by_name(self):
        self.whole(7, Reading(machine=ONE_ROOM).sign(place=0))
        self.whole(1, Reading(machine=ODD_ONES).step(place=0, figure=1))


class PairingTest(Asking, unittest.TestCase):
    def test_places_are_pairs(self):
        walk = Pairing(Reading(ODD_ONES), Reading(REST_OF_THREE), mixed)
        self.wholes((0, 0), walk.begin())
        self.wholes((1, 1), walk.step((0, 0), 1))
        self.wholes((0, 1), walk.step((0, 2), 0))
        self.whole(3 * 1 + 2, walk.sign((1, 2)))

    def test_both_go_by_the_same_figures(self):
        walk = Pairing(Reading(ODD_ONES), Reading(REST_OF_THREE), mixed)
        for row in all_rows(2, 6):
            self.wholes((plain_room(ODD_ONES, row), plain_room(REST_OF_THREE, row)), went(walk, row))
            self.whole(mixed(plain_told(ODD_ONES, row), plain_told(REST_OF_THREE, row)), walk_tells(walk, row))

    def test_one_walk_twice(self):
        reading = Reading(REST_OF_THREE)
        walk = Pairing(reading, reading, lambda one, other: one * 10 + other)
        for row in all_rows(2, 4):
            self.whole(11 * plain_told(REST_OF_THREE, row), walk_tells(walk, row))

    def test_walks_of_any_kind(self):
        walk = Pairing(Walk(), Pairing(Counting(9), Remembering(), mixed), max)
        self.assertEqual((None, (0, None)), walk.begin())
        self.assertEqual((None, (3, -3)), went(walk, (1, 0, 2)))
        self.whole(3 * 3 + 20, walk_tells(walk, (1, 0, 2)))
        self.assertEqual((None, (1, (None, 1))), went(walk, (1,)))

    def test_by_name(self):
        walk = Pairing(rule=mixed, other=Reading(ODD_ONES), one=Reading(REST_OF_THREE))
        self.whole(3 * 2 + 1, walk_tells(walk, (1, 0)))

    def test_deep_in_one_another(self):
        walk = Counting(100)
        for depth in range(19):
            walk = Pairing(walk, Walk(), lambda one, other: one + other + 1)
        self.whole(19 + 3, walk_tells(walk, (1, 1, 1)))


class NarrowingTest(Asking, unittest.TestCase):
    def test_the_part_is_taken_out(self):
        walk = Narrowing(Counting(10 ** 9), 10, 1)
        self.whole(0, walk.begin())
        self.whole(573, walk.step(0, 5793))
        self.whole(793, Narrowing(Counting(10 ** 9), 10, 3).step(0, 5793))
        self.whole(579, Narrowing(Counting(10 ** 9), 10, 0).step(0, 5793))
        self.whole(5793, Narrowing(Counting(10 ** 9), 10, 4).step(0, 5793))

    def test_each_figure_at_each_place(self):
        for base, many in ((2, 4), (3, 3), (5, 2), (10, 3), (999, 1)):
            for at in range(many + 1):
                walk = Narrowing(Counting(10 ** 9), base, at)
                for figure in range(base ** many):
                    self.whole(plain_narrow(figure, base, at), walk.step(0, figure))

    def test_great_figures(self):
        for base, at in ((2, 300), (10, 299), (10, 300), (7, 0), (10 ** 299, 1)):
            figure = 10 ** 299 + 123456789 * 10 ** 150 + 7
            self.whole(plain_narrow(figure, base, at), Narrowing(Counting(10 ** 300), base, at).step(0, figure))

    def test_it_has_the_places_and_signs_of_the_walk(self):
        for inner in (Counting(7), Remembering(), Pairing(Counting(7), Reading(FIRST_FIGURE), mixed)):
            walk = Narrowing(inner, 3, 1)
            self.assertEqual(inner.begin(), walk.begin())
            for row in all_rows(9, 3):
                narrow = [plain_narrow(figure, 3, 1) for figure in row]
                self.assertEqual(went(inner, narrow), went(walk, row))
                self.whole(walk_tells(inner, narrow), walk_tells(walk, row))

    def test_of_a_wide_of_1(self):
        walk = Narrowing(Reading(ONE_FIGURE), 2, 0)
        for row in all_rows(2, 5):
            self.whole(plain_told(ONE_FIGURE, (0,) * len(row)), walk_tells(walk, row))

    def test_in_one_another(self):
        walk = Narrowing(Narrowing(Counting(10 ** 9), 10, 0), 10, 2)
        self.whole(64, walk.step(0, 6543))
        self.whole(3, walk.sign(8))

    def test_by_name(self):
        self.whole(12, Narrowing(at=1, base=10, walk=Counting(99)).step(0, 152))


def plain_sign(machine, base, at, rooms):
    """The sign there, by its words: all rows of figures whose other parts are 0 are tried, up to as many as count."""
    alone = [base ** at * part for part in range(base)]
    signs = set()
    for long in range(len(machine[1])):
        for row in itertools.product(alone, repeat=long):
            signs.update(machine[2][plain_room(machine, row, here)] for here in rooms)
    return 1 if 1 in signs else 0


class ChoosingTest(Asking, unittest.TestCase):
    def each_way(self, machine, base, many, at):
        walk = Choosing(machine, base, at)
        self.wholes((0,), walk.begin())
        seen = [(0,)]
        for place in seen:
            self.whole(plain_sign(machine, base, at, place), walk.sign(place))
            for figure in range(base ** (many - 1)):
                there = chosen_rooms(machine, base, many, at, place, figure)
                self.wholes(there, walk.step(place, figure))
                if there not in seen:
                    seen.append(there)

    def test_an_ordinary_machine(self):
        first = Choosing(TWICE, 2, 0)
        self.wholes((0,), first.begin())
        self.wholes((0, 1), first.step((0,), 0))
        self.wholes((2,), first.step((0,), 1))
        self.wholes((0, 1, 2), first.step((0, 1), 1))
        self.assertEqual([1, 0, 1, 0], [first.sign(place) for place in ((0,), (1,), (0, 1), (2,))])
        other = Choosing(TWICE, 2, 1)
        self.wholes((0, 2), other.step((0,), 0))
        self.wholes((1, 2), other.step((0,), 1))
        self.assertEqual([1, 1, 1, 0], [other.sign(place) for place in ((0,), (1,), (1, 2), (2,))])

    def test_one_number(self):
        self.each_way(ODD_ONES, 2, 1, 0)
        self.each_way(REST_OF_THREE, 2, 1, 0)
        self.each_way(FIRST_FIGURE, 3, 1, 0)
        for machine in made_machines(20, 3, 4, 3):
            self.each_way(machine, 3, 1, 0)

    def test_two_numbers(self):
        for machine in made_machines(40, 4, 4, 3):
            self.each_way(machine, 2, 2, 0)
            self.each_way(machine, 2, 2, 1)
        for machine in made_machines(10, 9, 3, 2):
            self.each_way(machine, 3, 2, 0)
            self.each_way(machine, 3, 2, 1)

    def test_three_numbers(self):
        for machine in made_machines(20, 8, 3, 3):
            for at in range(3):
                self.each_way(machine, 2, 3, at)

    def test_signs_other_than_1_count_as_0(self):
        machine = (2, ((1, 2), (1, 1), (2, 3), (3, 3)), (0, 2, 999999, 1))
        walk = Choosing(machine, 2, 0)
        self.assertEqual([1, 0, 1, 1, 0], [walk.sign(place) for place in ((0,), (1,), (2,), (1, 3), (1,))])

    def test_only_figures_whose_other_parts_are_0_count_for_the_sign(self):
        # From room 0 the figure 2 alone leads to the sign 1: its part at 1 is 1, its part at 0 is 0.
        machine = (4, ((0, 0, 1, 0), (1, 1, 1, 1)), (0, 1))
        self.whole(0, Choosing(machine, 2, 0).sign((0,)))
        self.whole(1, Choosing(machine, 2, 1).sign((0,)))

    def test_rooms_rise_and_stand_once(self):
        rows = ((64, 8, 64), (9, 8, 7)) + ((0, 64, 1),) * 98
        walk = Choosing((3, rows, (0,) * 100), 3, 0)
        self.wholes((8, 64), walk.step((0,), 0))
        self.wholes((0, 1, 64), walk.step((8, 64), 0))
        self.wholes((0, 1, 7, 8, 9, 64), walk.step((0, 1, 64), 0))

    def test_many_rooms_and_figures(self):
        walk = Choosing(LONG_WAY, 2, 0)
        self.wholes((0, 1), walk.step((0,), 0))
        self.wholes(tuple(range(1000)), went(walk, (0,) * 1000))
        self.whole(1, walk.sign((0,)))
        self.wholes((0, 1), Choosing(WIDEST, 1000, 0).step((0,), 0))
        self.wholes((0, 1), Choosing(WIDEST, 10, 2).step((0,), 99))
        self.wholes((1,), Choosing(WIDEST, 10, 2).step((0,), 98))

    def test_by_name(self):
        self.wholes((0, 1), Choosing(at=0, base=2, machine=ODD_ONES).step((0,), 0))


class GrownTest(Asking, unittest.TestCase):
    def check(self, walk, wide, many):
        """The machine has so many rooms, tells what the walk tells, and has a room for each place, in order."""
        answer = self.just_most(many, grown, walk, wide)
        self.is_a_machine(wide, answer)
        self.in_lead_order(answer)
        self.assertEqual(many, len(answer[1]))
        places = {}
        for row in all_rows(wide, 6 if wide < 3 else 3):
            self.whole(walk_tells(walk, row), plain_told(answer, row))
            self.assertEqual(went(walk, row), places.setdefault(plain_room(answer, row), went(walk, row)))
        self.assertEqual(len(places), len(set(places.values())))
        return answer

    def test_walk_itself(self):
        for wide in (1, 2, 10, 1000):
            self.assertEqual((wide, ((0,) * wide,), (0,)), grown(Walk(), wide))
            self.assertEqual((wide, ((0,) * wide,), (0,)), grown(Walk(), wide, 1))

    def test_reading(self):
        for machine in (ODD_ONES, REST_OF_THREE, FIRST_FIGURE, ONE_FIGURE):
            self.assertEqual(machine, self.check(Reading(machine), machine[0], len(machine[1])))
        self.assertEqual(WIDEST, grown(Reading(WIDEST), 1000))
        for machine in made_machines(30, 2, 6, 3):
            answer = self.check(Reading(machine), 2, len(plain_reached(machine)))
            self.assertEqual(least(machine), least(answer))

    def test_it_is_not_made_least(self):
        self.assertEqual(ring(3, (4,)), self.check(Reading(ring(3, (4,))), 1, 3))
        alike = (2, ((1, 2), (2, 0), (0, 1)), (3, 3, 3))
        self.assertEqual(alike, self.check(Reading(alike), 2, 3))

    def test_rooms_are_numbered_in_the_order_of_the_first_rows(self):
        machine = (2, ((3, 1), (1, 1), (0, 2), (3, 2)), (10, 11, 12, 13))
        self.assertEqual((2, ((1, 2), (1, 3), (2, 2), (0, 3)), (10, 13, 11, 12)), self.check(Reading(machine), 2, 4))

    def test_walks_of_others(self):
        self.check(Counting(6), 2, 7)
        self.check(Counting(6), 4, 7)
        self.assertEqual((1, ((0,),), (0,)), self.check(Counting(6), 1, 1))
        self.assertEqual(
            (2, ((0, 1), (1, 2), (2, 3), (3, 4), (4, 5), (5, 6), (6, 7), (7, 8), (8, 9), (9, 10), (10, 0)),
             (10, 30, 20) + (30,) * 8),
            self.check(Remembering(), 2, 11),
        )

    def test_pairing(self):
        self.check(Pairing(Reading(ODD_ONES), Reading(REST_OF_THREE), mixed), 2, 6)
        self.check(Pairing(Counting(4), Remembering(), mixed), 2, 15)

    def test_narrowing(self):
        self.check(Narrowing(Reading(REST_OF_THREE), 2, 0), 4, 3)
        self.check(Narrowing(Reading(REST_OF_THREE), 2, 1), 4, 3)

    def test_choosing(self):
        answer = self.check(Choosing(TWICE, 2, 1), 2, 3)
        self.assertEqual((2, ((1, 2), (1, 2), (1, 2)), (1, 1, 1)), answer)

    def test_fewer_figures_than_the_walk_knows(self):
        self.assertEqual((2, ((1, 2), (1, 1), (2, 2)), (9, 0, 1)), self.check(Reading(FIRST_FIGURE), 2, 3))
        self.assertEqual((1, ((1,), (1,)), (9, 0)), self.check(Reading(FIRST_FIGURE), 1, 2))

    def test_most_is_200_where_nothing_is_said(self):
        self.assertEqual(200, len(grown(Counting(199), 2)[1]))
        self.too_great(200, grown, Counting(200), 2)
        self.too_great(200, grown, LongestWalk(), 1)

    def test_just_most(self):
        self.just_most(1, grown, Walk(), 2)
        self.just_most(2, grown, Reading(ODD_ONES), 2)
        self.just_most(1000, grown, Reading(LONG_WAY), 2)
        self.too_great(7, grown, walk=LongestWalk(), wide=3, most=7)

    def test_the_walk_is_asked_as_it_is(self):
        walk = Pairing(Reading(ODD_ONES), Counting(4), mixed)
        before = grown(walk, 2)
        self.too_great(3, grown, walk, 2, 3)
        grown(Pairing(Reading(REST_OF_THREE), Counting(5), mixed), 2)
        self.assertEqual(before, grown(walk, 2))
        self.assertEqual(before, grown(Pairing(Reading(ODD_ONES), Counting(4), mixed), 2))


if __name__ == "__main__":
    unittest.main()
