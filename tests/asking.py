"""What several tests need: things of every kind, and how a refusal is asked for."""

import fractions
import itertools

from figuretell import errors

REFUSALS = (
    errors.NoFigures,
    errors.NoMachine,
    errors.NoPower,
    errors.TooWide,
    errors.TooGreat,
    errors.NoText,
    errors.NoRow,
    errors.NoName,
    errors.NoSome,
)


class Strange:
    """Shown, compared, counted or walked, it fails; so it may only be asked what kind it is."""

    def fail(self, *others):
        raise RuntimeError("a strange thing was touched")

    __repr__ = __str__ = __eq__ = __lt__ = __le__ = __gt__ = __ge__ = fail
    __len__ = __iter__ = __bool__ = __int__ = __index__ = __hash__ = fail


def no_wholes():
    """Things that are no whole numbers."""
    return [
        True, False, None, "", "7", b"7", 0.0, 7.0, float("nan"), float("inf"), 7j, fractions.Fraction(7),
        (), (7,), [], [7], {}, {7: 7}, set(), {7}, frozenset((7,)), range(7), iter((7,)), object(), int, len,
        Strange(), Strange,
    ]


def no_rows():
    """Things that are no tuples and no lists."""
    return [thing for thing in no_wholes() if not isinstance(thing, (tuple, list))] + [0, 7, -7, "123", {1: 1, 2: 2}]


def all_rows(wide, longest):
    """All rows of figures that are no longer than longest."""
    for long in range(longest + 1):
        yield from itertools.product(range(wide), repeat=long)


class Asking:
    """Beside unittest.TestCase as a base."""

    def refused(self, kind, function, *arguments, **named):
        with self.assertRaises(ValueError) as caught:
            function(*arguments, **named)
        error = caught.exception
        self.assertIsInstance(error, errors.FigureError)
        self.assertEqual([kind], [refusal for refusal in REFUSALS if isinstance(error, refusal)])

    def whole(self, expected, answer):
        """As assertEqual, but True is not 1 here."""
        self.assertIs(int, type(answer))
        self.assertEqual(expected, answer)

    def wholes(self, expected, answer):
        """As assertEqual, but a list is no tuple here, and True is not 1."""
        self.assertIs(tuple, type(answer))
        self.assertEqual([int] * len(answer), [type(part) for part in answer])
        self.assertEqual(expected, answer)
