"""What several tests need: things of every kind, and how a refusal is asked for."""

import fractions
import itertools

from figuretell import errors
from figuretell.machines import is_machine
from samples import apart_at, plain_room, plain_told

REFUSALS = (
    errors.NoFigures,
    errors.NoMachine,
    errors.NoPower,
    errors.TooWide,
    errors.TooGreat,
    errors.NoText,
    errors.NoRow,
    errors.NoName,
    errors.NoSome,
)


class Strange:
    """Shown, compared, counted or walked, it fails; so it may only be asked what kind it is."""

    def fail(self, *others):
        raise RuntimeError("a strange thing was touched")

    __repr__ = __str__ = __eq__ = __lt__ = __le__ = __gt__ = __ge__ = fail
    __len__ = __iter__ = __bool__ = __int__ = __index__ = __hash__ = fail


def no_wholes():
    """Things that are no whole numbers."""
    return [
        True, False, None, "", "7", b"7", 0.0, 7.0, float("nan"), float("inf"), 7j, fractions.Fraction(7),
        (), (7,), [], [7], {}, {7: 7}, set(), {7}, frozenset((7,)), range(7), iter((7,)), object(), int, len,
        Strange(), Strange,
    ]


def no_rows():
    """Things that are no tuples and no lists."""
    return [thing for thing in no_wholes() if not isinstance(thing, (tuple, list))] + [0, 7, -7, "123", {1: 1, 2: 2}]


def all_rows(wide, longest):
    """All rows of figures that are no longer than longest."""
    for long in range(longest + 1):
        yield from itertools.product(range(wide), repeat=long)


class Asking:
    """Beside unittest.TestCase as a base."""

    def refused(self, kind, function, *arguments, **named):
        with self.assertRaises(ValueError) as caught:
            function(*arguments, **named)
        error = caught.exception
        self.assertIsInstance(error, errors.FigureError)
        self.assertEqual([kind], [refusal for refusal in REFUSALS if isinstance(error, refusal)])

    def too_great(self, handed, function, *arguments, **named):
        self.refused(errors.TooGreat, function, *arguments, **named)
        with self.assertRaises(errors.TooGreat) as caught:
            function(*arguments, **named)
        self.whole(handed, caught.exception.most)

    def just_most(self, most, function, *arguments):
        """With that most there is an answer, the same as with a greater one; with one less it is refused."""
        answer = function(*arguments, most)
        self.assertEqual(answer, function(*arguments, most=most + 1))
        self.assertEqual(answer, function(*arguments, most=1000000))
        if most > 1:
            self.too_great(most - 1, function, *arguments, most - 1)
            self.too_great(most - 1, function, *arguments, most=most - 1)
            self.too_great(1, function, *arguments, 1)
        return answer

    def whole(self, expected, answer):
        """As assertEqual, but True is not 1 here."""
        self.assertIs(int, type(answer))
        self.assertEqual(expected, answer)

    def wholes(self, expected, answer):
        """As assertEqual, but a list is no tuple here, and True is not 1."""
        self.assertIs(tuple, type(answer))
        self.assertEqual([int] * len(answer), [type(part) for part in answer])
        self.assertEqual(expected, answer)

    def is_a_machine(self, wide, answer):
        self.assertTrue(is_machine(answer), answer)
        self.assertEqual(wide, answer[0])
        self.assertEqual({int}, {type(there) for row in answer[1] for there in row} | {type(s) for s in answer[2]})

    def in_lead_order(self, answer):
        """Each room of the machine has a lead, and they are numbered in the order of these."""
        wide, rows, signs = answer
        found = [()]
        for lead in found:
            for figure in range(wide):
                if plain_room(answer, lead + (figure,)) == len(found):
                    found.append(lead + (figure,))
                self.assertLess(plain_room(answer, lead + (figure,)), len(found), answer)
        self.assertEqual(len(rows), len(found), answer)

    def is_least(self, wide, answer):
        self.is_a_machine(wide, answer)
        self.in_lead_order(answer)
        rooms = len(answer[1])
        self.assertEqual(rooms * (rooms - 1), len(apart_at(answer, rooms)), answer)

    def tells(self, answer, longest, expected):
        """Of each row that is no longer than longest the machine tells what the function expected does."""
        for row in all_rows(answer[0], longest):
            self.assertEqual(expected(row), plain_told(answer, row), (answer, row))
