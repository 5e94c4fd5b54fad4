import itertools
import unittest

from asking import Asking, all_rows, no_rows, no_wholes
from figuretell.errors import NoFigures
from figuretell.figures import apart, figures, joint, number_of

LONG = 10 ** 299 + 987654321 * 10 ** 150 + 7


def plain_number(row, wide):
    return sum(figure * wide ** place for place, figure in enumerate(row))


def plain_joint(numbers, base):
    """The joint number by the words of the document: figure by figure, in a wide of base ** many."""
    wide = base ** len(numbers)
    answer = 0
    place = 0
    while any(number >= base ** place for number in numbers):
        figure = sum((number // base ** place % base) * base ** at for at, number in enumerate(numbers))
        answer += figure * wide ** place
        place += 1
    return answer


class FiguresTest(Asking, unittest.TestCase):
    def test_the_lowest_first(self):
        self.wholes((7, 4, 0, 1), figures(1047))
        self.wholes((7, 4, 0, 1), figures(1047, 10))
        self.wholes((0, 1, 1), figures(6, 2))
        self.wholes((15, 15, 1), figures(511, 16))
        self.wholes((0, 0, 1), figures(49, 7))

    def test_nought_has_no_figures(self):
        for wide in (2, 3, 10, 1000, LONG):
            self.wholes((), figures(0, wide))

    def test_around_the_wide(self):
        for wide in (2, 3, 10, 16, 1000, LONG):
            self.wholes((1,), figures(1, wide))
            self.wholes((wide - 1,), figures(wide - 1, wide))
            self.wholes((0, 1), figures(wide, wide))
            self.wholes((1, 1), figures(wide + 1, wide))
            self.wholes((wide - 1, wide - 1), figures(wide * wide - 1, wide))
            self.wholes((0, 0, 1), figures(wide * wide, wide))

    def test_each_number_as_told(self):
        for wide in (2, 3, 4, 5, 7, 10, 31):
            for number in range(700):
                row = figures(number, wide)
                self.assertEqual(number, plain_number(row, wide))
                self.assertTrue(all(0 <= figure < wide for figure in row))
                self.assertNotEqual((0,), row[-1:])

    def test_many_figures(self):
        self.wholes(tuple(int(sign) for sign in reversed(str(LONG))), figures(LONG))
        self.wholes(tuple(int(sign) for sign in reversed(bin(LONG)[2:])), figures(LONG, 2))
        self.wholes((0,) * 900 + (1,), figures(2 ** 900, 2))
        self.wholes((1,) * 900, figures(2 ** 900 - 1, 2))

    def test_wide_by_name(self):
        self.wholes((1, 0, 1), figures(wide=2, number=5))

    def test_refused_numbers(self):
        for number in no_wholes() + [-1, -10, -LONG]:
            self.refused(NoFigures, figures, number)
            self.refused(NoFigures, figures, number, 2)

    def test_refused_wides(self):
        for wide in no_wholes() + [1, 0, -1, -2, -10, -LONG]:
            for number in (0, 1, 12, LONG):
                self.refused(NoFigures, figures, number, wide)

    def test_refused_both(self):
        for number, wide in itertools.product(no_wholes(), no_wholes()):
            self.refused(NoFigures, figures, number, wide)

    def test_asked_again(self):
        before = [figures(number, wide) for number in range(50) for wide in (2, 10)]
        self.assertEqual(before, [figures(number, wide) for number in range(50) for wide in (2, 10)])


class NumberOfTest(Asking, unittest.TestCase):
    def test_the_lowest_first(self):
        self.whole(1047, number_of((7, 4, 0, 1)))
        self.whole(1047, number_of([7, 4, 0, 1], 10))
        self.whole(6, number_of((0, 1, 1), 2))
        self.whole(511, number_of([15, 15, 1], 16))

    def test_no_figures_are_nought(self):
        for wide in (2, 10, 1000, LONG):
            self.whole(0, number_of((), wide))
            self.whole(0, number_of([], wide))

    def test_noughts_at_the_end(self):
        for noughts in range(20):
            self.whole(0, number_of((0,) * noughts, 2))
            self.whole(201, number_of((1, 0, 2) + (0,) * noughts))
            self.whole(5, number_of([1, 0, 1] + [0] * noughts, 2))

    def test_each_row_as_told(self):
        for wide, longest in ((2, 9), (3, 5), (10, 3)):
            for row in all_rows(wide, longest):
                self.whole(plain_number(row, wide), number_of(row, wide))

    def test_back_again(self):
        for wide in (2, 3, 10, 1000, LONG):
            for number in list(range(300)) + [2 ** 64, 10 ** 100 - 1, LONG]:
                self.whole(number, number_of(figures(number, wide), wide))
                self.whole(number, number_of(list(figures(number, wide)) + [0, 0], wide))

    def test_long_rows(self):
        for long in (999, 1000):
            self.whole(10 ** long - 1, number_of((9,) * long))
            self.whole(2 ** long, number_of([0] * long + [1], 2))

    def test_wide_by_name(self):
        self.whole(5, number_of(wide=2, row=(1, 0, 1)))

    def test_refused_rows(self):
        for row in no_rows():
            self.refused(NoFigures, number_of, row)
            self.refused(NoFigures, number_of, row, 2)

    def test_refused_figures(self):
        for figure in no_wholes() + [-1, -9, 10, 11, LONG]:
            self.refused(NoFigures, number_of, (figure,))
            self.refused(NoFigures, number_of, [1, figure, 2], 10)
            self.refused(NoFigures, number_of, (1, 2, figure), 10)

    def test_a_figure_as_great_as_the_wide(self):
        for wide in (2, 3, 10, 1000, LONG):
            self.whole(wide - 1, number_of((wide - 1,), wide))
            self.refused(NoFigures, number_of, (wide,), wide)
            self.refused(NoFigures, number_of, [0, wide], wide)

    def test_refused_wides(self):
        for wide in no_wholes() + [1, 0, -1, -2, -10]:
            for row in ((), (0,), (1, 0, 1), [], [0]):
                self.refused(NoFigures, number_of, row, wide)

    def test_lists_stay_as_they_are(self):
        row = [1, 0, 1, 0, 0]
        self.whole(5, number_of(row, 2))
        self.assertEqual([1, 0, 1, 0, 0], row)
        self.whole(5, number_of(row, 2))
        row.append(1)
        self.whole(37, number_of(row, 2))


class JointTest(Asking, unittest.TestCase):
    def test_side_by_side(self):
        # 6 is 0 1 1 and 3 is 1 1 0, the lowest first: the joint figures are 2, 3, 1 in wide 4.
        self.whole(2 + 3 * 4 + 1 * 16, joint((6, 3), 2))
        self.whole(1 + 3 * 4 + 2 * 16, joint([3, 6], 2))
        # In base ten the wide is 1000 here.
        self.whole(531 + 42 * 1000 + 600 * 1000000, joint((21, 43, 605), 10))

    def test_of_one_number_it_is_the_number(self):
        for base in (2, 3, 10):
            for number in (0, 1, 9, 10, 12345, LONG):
                self.whole(number, joint((number,), base))

    def test_of_no_numbers_it_is_nought(self):
        for base in (2, 10, LONG):
            self.whole(0, joint((), base))
            self.whole(0, joint([], base))

    def test_of_noughts_it_is_nought(self):
        for many in range(6):
            self.whole(0, joint((0,) * many, 3))

    def test_each_row_as_told(self):
        for base, many, below in ((2, 2, 20), (2, 3, 9), (3, 2, 30), (3, 3, 10), (10, 2, 25)):
            for numbers in itertools.product(range(below), repeat=many):
                self.whole(plain_joint(numbers, base), joint(numbers, base))

    def test_its_figures_are_the_numbers_figures(self):
        self.wholes((1, 2, 4, 7), figures(joint((0b1001, 0b1010, 0b1100), 2), 8))
        self.wholes((0, 0, 8), figures(joint((0, 0, 0, 4), 2), 16))

    def test_great_numbers(self):
        numbers = (LONG, 0, 10 ** 298 - 1, 5)
        for base in (2, 3, 10, LONG):
            self.whole(plain_joint(numbers, base), joint(numbers, base))

    def test_refused_numbers(self):
        for numbers in no_rows():
            self.refused(NoFigures, joint, numbers, 2)

    def test_refused_number_among_them(self):
        for number in no_wholes() + [-1, -LONG]:
            self.refused(NoFigures, joint, (number,), 2)
            self.refused(NoFigures, joint, [1, number], 10)
            self.refused(NoFigures, joint, (number, 1), 10)

    def test_refused_bases(self):
        for base in no_wholes() + [1, 0, -1, -2]:
            for numbers in ((), [], (0,), (3, 4)):
                self.refused(NoFigures, joint, numbers, base)

    def test_lists_stay_as_they_are(self):
        numbers = [6, 3]
        self.whole(30, joint(numbers, 2))
        self.assertEqual([6, 3], numbers)
        self.whole(30, joint(numbers, 2))
        numbers.append(0)
        self.whole(plain_joint((6, 3, 0), 2), joint(numbers, 2))


class ApartTest(Asking, unittest.TestCase):
    def test_told_apart(self):
        self.wholes((6, 3), apart(30, 2, 2))
        self.wholes((21, 43, 605), apart(600042531, 10, 3))
        self.wholes((12345,), apart(12345, 10, 1))

    def test_nought_told_apart(self):
        for many in range(6):
            self.wholes((0,) * many, apart(0, 2, many))

    def test_the_row_again(self):
        for base, many, below in ((2, 1, 20), (2, 2, 20), (2, 3, 9), (3, 3, 10), (10, 2, 25)):
            for numbers in itertools.product(range(below), repeat=many):
                self.wholes(numbers, apart(joint(numbers, base), base, many))
                self.wholes(numbers, apart(joint(list(numbers), base), base, many))

    def test_each_number_is_a_joint_number_of_one_row(self):
        for base in (2, 3, 10):
            for many in (1, 2, 3, 5):
                rows = [apart(number, base, many) for number in range(400)]
                self.assertEqual(400, len(set(rows)))
                self.assertEqual([many] * 400, [len(row) for row in rows])
                self.assertEqual(list(range(400)), [plain_joint(row, base) for row in rows])

    def test_of_no_numbers(self):
        for base in (2, 10):
            self.wholes((), apart(0, base, 0))
            for number in (1, 2, 10, LONG):
                self.refused(NoFigures, apart, number, base, 0)

    def test_great_numbers(self):
        for base in (2, 3, 10, LONG):
            for many in (1, 2, 9, 300):
                self.whole(LONG, joint(apart(LONG, base, many), base))

    def test_refused_numbers(self):
        for number in no_wholes() + [-1, -LONG]:
            for many in (0, 1, 2):
                self.refused(NoFigures, apart, number, 2, many)

    def test_refused_bases(self):
        for base in no_wholes() + [1, 0, -1, -2]:
            for number, many in ((0, 0), (0, 1), (5, 1), (5, 2)):
                self.refused(NoFigures, apart, number, base, many)

    def test_refused_manys(self):
        for many in no_wholes() + [-1, -2, -LONG]:
            for number in (0, 1, 5):
                self.refused(NoFigures, apart, number, 2, many)

    def test_asked_again(self):
        before = [apart(number, 3, 2) for number in range(50)]
        self.assertEqual(before, [apart(number, 3, 2) for number in range(50)])


if __name__ == "__main__":
    unittest.main()
