import fractions
import itertools
import math
import unittest

from asking import Asking
from figuretell.sums import Looking, Meeting, Weighing, Within
from figuretell.walks import Narrowing, Pairing, Walk, grown
from known import plain_sign, powers_of, rest_by, signs_at
from samples import TWICE, joint_figures, numbers_below, plain_figures, plain_room, plain_weight, steady_machines

FACTORS = ((), (0,), (1,), (-1,), (20,), (1, 1), (1, -1), (2, -3), (0, 7), (-20, 0), (3, 1, -2), (-1, -1, -1),
           (0, 0, 0), (160, -160, 1))
NO_MINUS = tuple(factors for factors in FACTORS if min(factors, default=0) >= 0) + ((2, 5), (1, 0, 20))
GOALS = (0, 1, -1, 2, 7, -7, 100, -100, 999999, -999999)


def some_figures(base, many):
    """All the figures of a joint number, or where these are many, some of them, the last one among them."""
    wide = base ** many
    return range(wide) if wide <= 64 else sorted({*range(0, wide, 1 + wide // 40), wide - 1})


def led(walk, row):
    place = walk.begin()
    for figure in row:
        place = walk.step(place, figure)
    return place


def numbers_about(factors, goal):
    """Rows of numbers whose sum with the factors is the goal, or near to it, and others."""
    below = numbers_below(31 + len(factors))
    for turn in range(12):
        numbers = [below(10) ** below(18) for factor in factors]
        yield tuple(numbers)
        for at, factor in enumerate(factors):
            if factor != 0:
                left = goal - sum(f * x for f, x in zip(factors, numbers)) + factor * numbers[at]
                for near in range(-1, 2):
                    yield tuple(numbers[:at] + [max(0, left // factor + near)] + numbers[at + 1:])


class WeighingTest(Asking, unittest.TestCase):
    def test_what_stands_under_what(self):
        for walk in (Meeting((1,), 0, 2), Within((1,), 0, 2)):
            self.assertIsInstance(walk, Weighing)
        self.assertIsInstance(Weighing((1,), 0, 2), Walk)
        self.assertIsInstance(Looking(rest_by(3, 2), (1,), 0, 2), Walk)
        self.assertEqual(((Walk,), (Weighing,), (Weighing,)), (Weighing.__bases__, Meeting.__bases__, Within.__bases__))
        self.assertFalse(issubclass(Meeting, Within) or issubclass(Within, Meeting))

    def test_weight(self):
        for kind, factors, base in itertools.product((Weighing, Meeting, Within), FACTORS, (2, 3, 10)):
            walk = kind(factors, 5, base)
            for figure in some_figures(base, len(factors)):
                self.whole(plain_weight(factors, base, figure), walk.weight(figure))
        self.whole(3 * 1 - 2 * 2 + 0, Weighing((3, -2, 5), 0, 3).weight(1 + 3 * 2 + 9 * 0))

    def test_weight_of_many_factors(self):
        factors = [(-1) ** at * at for at in range(100)]
        figure = sum((at % 3) * 3 ** at for at in range(100))
        self.whole(sum((at % 3) * factors[at] for at in range(100)), Meeting(factors, 0, 3).weight(figure))


class MeetingTest(Asking, unittest.TestCase):
    def test_each_step(self):
        for factors, goal, base in itertools.product(FACTORS, GOALS, (2, 3, 10)):
            walk = Meeting(factors, goal, base)
            self.whole(goal, walk.begin())
            for place in {goal, 0, 1, -1, 5, -8, 60}:
                for figure in some_figures(base, len(factors)):
                    onward = fractions.Fraction(place - plain_weight(factors, base, figure), base)
                    if onward.denominator == 1:
                        self.whole(onward.numerator, walk.step(place, figure))
                    else:
                        self.assertIsNone(walk.step(place, figure))

    def test_none_leads_to_none(self):
        walk = Meeting((1, -1), 0, 2)
        self.assertEqual([None] * 4, [walk.step(None, figure) for figure in range(4)])
        self.assertIsNone(led(Meeting((2,), 1, 2), (1, 0, 1)))

    def test_signs(self):
        walk = Meeting((1, -1), 7, 2)
        self.whole(1, walk.sign(0))
        for place in (None, 1, -1, 7, -7, 2):
            self.whole(0, walk.sign(place))

    def test_it_tells_whether_the_sum_is_the_goal(self):
        met = 0
        for factors, goal, base in itertools.product(FACTORS, GOALS, (2, 5, 10)):
            walk = Meeting(factors, goal, base)
            for numbers in numbers_about(factors, goal):
                so = sum(factor * number for factor, number in zip(factors, numbers)) == goal
                met += so
                for noughts in range(3):
                    self.whole(int(so), walk.sign(led(walk, joint_figures(numbers, base) + (0,) * noughts)))
        self.assertGreater(met, 500)


class WithinTest(Asking, unittest.TestCase):
    def test_each_step(self):
        for factors, goal, base in itertools.product(FACTORS, GOALS, (2, 3, 10)):
            walk = Within(factors, goal, base)
            self.whole(goal, walk.begin())
            for place in {goal, 0, 1, -1, 5, -8, 60}:
                for figure in some_figures(base, len(factors)):
                    onward = fractions.Fraction(place - plain_weight(factors, base, figure), base)
                    self.whole(math.floor(onward), walk.step(place, figure))

    def test_signs(self):
        walk = Within((1, -1), 7, 2)
        for place in (0, 1, 2, 7, 1000000):
            self.whole(1, walk.sign(place))
        for place in (-1, -2, -1000000):
            self.whole(0, walk.sign(place))

    def test_it_tells_whether_the_sum_is_at_most_the_goal(self):
        held = [0, 0]
        for factors, goal, base in itertools.product(FACTORS, GOALS, (2, 5, 10)):
            walk = Within(factors, goal, base)
            for numbers in numbers_about(factors, goal):
                so = sum(factor * number for factor, number in zip(factors, numbers)) <= goal
                held[so] += 1
                for noughts in range(3):
                    self.whole(int(so), walk.sign(led(walk, joint_figures(numbers, base) + (0,) * noughts)))
        self.assertGreater(min(held), 1000)


class LookingTest(Asking, unittest.TestCase):
    def machines(self, base):
        return [rest_by(3, base), powers_of(base), signs_at(base, {0: 5, 7: 999999, 100: 3})] + list(
            steady_machines(3, base, 5, 3))

    def test_each_step_and_sign(self):
        for base in (2, 3, 10):
            for machine, factors, more in itertools.product(self.machines(base), NO_MINUS, (0, 1, 7, 999999)):
                walk = Looking(machine, factors, more, base)
                self.wholes((more, 0), walk.begin())
                for carried, room in itertools.product((0, 1, 9, more), {0, 1, len(machine[1]) - 1}):
                    end = plain_room(machine, plain_figures(carried, base), room)
                    self.whole(machine[2][end], walk.sign((carried, room)))
                    for figure in list(some_figures(base, len(factors)))[::5]:
                        total = carried + plain_weight(factors, base, figure)
                        there = (math.floor(fractions.Fraction(total, base)), machine[1][room][total % base])
                        self.wholes(there, walk.step((carried, room), figure))

    def test_it_tells_the_sign_at_the_sum(self):
        for base in (2, 3, 10):
            for machine, factors, more in itertools.product(self.machines(base), NO_MINUS, (0, 1, 7, 999999)):
                walk = Looking(machine, factors, more, base)
                for numbers in itertools.islice(numbers_about(factors, 100 - more), 20):
                    total = sum(factor * number for factor, number in zip(factors, numbers)) + more
                    for noughts in range(3):
                        row = joint_figures(numbers, base) + (0,) * noughts
                        self.whole(plain_sign(machine, total), walk.sign(led(walk, row)))


class SumsAsWalksTest(Asking, unittest.TestCase):
    def test_grown(self):
        self.assertEqual(TWICE, grown(Meeting((2, -1), 0, 2), 4))
        self.assertEqual((4, ((0, 0, 1, 0), (1, 0, 1, 1)), (0, 1)), grown(Within((1, -1), -1, 2), 4))
        self.assertEqual((2, ((1, 2), (1, 1), (2, 1)), (0, 0, 1)), grown(Meeting((3,), 3, 2), 2))

    def test_of_no_numbers(self):
        for goal in range(-9, 10):
            for kind, so in ((Meeting, goal == 0), (Within, goal >= 0)):
                machine = grown(kind((), goal, 2), 1)
                self.assertEqual({int(so)}, set(machine[2]))
        machine = grown(Looking(rest_by(7, 2), (), 1000, 2), 1)
        self.assertEqual({1000 % 7}, set(machine[2]))

    def test_within_other_walks(self):
        both = Pairing(Within((1, -1), 5, 3), Narrowing(Meeting((1,), 4, 3), 3, 1), lambda one, other: one + 2 * other)
        for x, y in itertools.product(range(12), repeat=2):
            place = led(both, joint_figures((x, y), 3))
            self.whole(int(x - y <= 5) + 2 * int(x == 4), both.sign(place))

    def test_factors_as_a_list_may_change_afterwards(self):
        for make in (lambda f: Meeting(f, 3, 2), lambda f: Within(f, 3, 2), lambda f: Looking(rest_by(3, 2), f, 3, 2)):
            factors = [1, 2]
            walk = make(factors)
            before = grown(walk, 4)
            self.assertEqual([1, 2], factors)
            factors[0] = 5
            factors.append(7)
            self.assertEqual(before, grown(walk, 4))
            self.assertEqual(before, grown(make((1, 2)), 4))
            self.assertNotEqual(before, grown(make((5, 2)), 4))

    def test_arguments_by_name(self):
        for kind in (Weighing, Meeting, Within):
            walk = kind(factors=(1, 2), goal=5, base=3)
            self.whole(1 + 2 * 2, walk.weight(figure=1 + 3 * 2))
        for walk, expected in ((Meeting((1,), 5, 3), None), (Within((1,), 5, 3), 1)):
            self.assertEqual(expected, walk.step(place=5, figure=0))
            self.whole(1, walk.sign(place=0))
        walk = Looking(machine=rest_by(3, 2), factors=(1,), more=5, base=2)
        self.whole(2, walk.sign(place=walk.begin()))
        self.assertEqual(3, walk.step(place=(5, 0), figure=1)[0])


if __name__ == "__main__":
    unittest.main()
