"""What is handed in stays as it was, and whatever is asked meanwhile, the answers stay the same."""

import copy
import itertools
import unittest

from figuretell.counts import count_below, ways
from figuretell.ends import endless, last_number
from figuretell.errors import FigureError
from figuretell.firsts import first_number, fitting
from figuretell.leasts import leads, least, parting
from figuretell.pieces import changed, paired, some, widened
from figuretell.statements import depth, free, rows_of, shown
from figuretell.turns import grown_row, lowered, raised, turned
from figuretell.walks import Choosing, Narrowing, Pairing, Reading, Walk, grown
from samples import ODD_ONES, REST_OF_THREE, TWICE, steady_machines

X = ((1, "x"),)


def mixed(one, other):
    return 10 * one + other


def questions(machine):
    """Of a machine of two numbers in base 2, with three rooms or more."""
    return [
        (leads, machine), (parting, machine, 0, 1), (parting, machine, 2, 1), (least, machine),
        (grown, Reading(machine), 4), (grown, Reading(machine), 4, 1), (paired, machine, machine, mixed),
        (paired, machine, TWICE, mixed, 2), (changed, machine, abs), (widened, machine, 2, 2, 1),
        (widened, machine, 32, 1, 1), (some, machine, 2, 2, 0), (some, machine, 2, 2, 1, 1), (turned, machine),
        (turned, machine, 1), (raised, machine, 2), (raised, machine, 5), (lowered, machine, 2), (lowered, machine, 3),
        (lowered, machine, 2, 2), (grown_row, ((0, 1), (1, 0)), machine[2], 20), (first_number, machine),
        (first_number, machine, 2, 10 ** 20), (fitting, machine, 2, 2, 0, (5,)),
        (fitting, machine, 2, 2, 1, [10 ** 20]), (ways, machine, 20), (count_below, machine, 10 ** 20),
        (count_below, machine, 99, 2), (last_number, machine), (last_number, machine, 2), (endless, machine), (endless, machine, 2), (endless, machine, 0),
    ]


def answer(question):
    try:
        return question[0](*question[1:])
    except FigureError as error:
        return (error.__class__.__name__, getattr(error, "most", None))


class LeftAloneTest(unittest.TestCase):
    def test_machines_stay_as_they_are(self):
        for machine in [TWICE] + list(steady_machines(10, 4, 4, 3)):
            before = copy.deepcopy(machine)
            for question in questions(machine):
                answer(question)
                self.assertEqual(before, machine)

    def test_rows_that_are_lists_stay_as_they_are_and_may_change_afterwards(self):
        for machine in [TWICE] + list(steady_machines(10, 4, 4, 2)):
            for at, other in itertools.product(range(2), range(6)):
                others = [other]
                before = fitting(machine, 2, 2, at, others)
                self.assertEqual([other], others)
                others[0] = other + 1
                after = fitting(machine, 2, 2, at, others)
                self.assertEqual((before, after), (fitting(machine, 2, 2, at, (other,)),
                                                   fitting(machine, 2, 2, at, (other + 1,))))

    def test_statements_stay_as_they_are(self):
        statement = ("all", "y", ("and", ("like", "T", ((2, "y"), (1, "x")), "S", ((1, ""),)), ("<", X, X)))
        before = copy.deepcopy(statement)
        answers = [function(statement) for function in (free, rows_of, depth, shown)]
        other = ("not", ("some", "x", statement))
        self.assertEqual(((), ("S", "T"), 4), (free(other), rows_of(other), depth(other)))
        self.assertEqual(answers, [function(statement) for function in (free, rows_of, depth, shown)])
        self.assertEqual(before, statement)

    def test_walks_stay_as_they_are(self):
        one = Reading(TWICE)
        other = Choosing(TWICE, 2, 1)
        narrow = Narrowing(Reading(ODD_ONES), 2, 0)
        pair = Pairing(one, narrow, mixed)
        before = [copy.deepcopy(vars(walk)) for walk in (one, other, narrow.walk, Walk())]
        for walk in (one, other, narrow, pair, Pairing(pair, one, mixed)):
            answer((grown, walk, 2))
            answer((grown, walk, 2, 1))
        self.assertEqual(before, [vars(walk) for walk in (one, other, narrow.walk, Walk())])
        self.assertEqual((one, narrow), (pair.one, pair.other))

    def test_asked_again_after_others_were_asked(self):
        machines = [TWICE] + list(steady_machines(10, 4, 4, 3))
        before = [answer(question) for machine in machines for question in questions(machine)]
        for machine in reversed(machines):
            after = [answer(question) for question in reversed(questions(machine))]
            self.assertEqual(len(questions(TWICE)), len(after))
        self.assertEqual(before, [answer(question) for machine in machines for question in questions(machine)])

    def test_walks_know_of_those_alone_that_they_were_made_of(self):
        first = Pairing(Reading(ODD_ONES), Reading(REST_OF_THREE), mixed)
        before = grown(first, 2)
        second = Pairing(Reading(REST_OF_THREE), Reading(ODD_ONES), max)
        self.assertNotEqual(before, grown(second, 2))
        self.assertEqual(before, grown(first, 2))
        choosing = [Choosing(TWICE, 2, 0), Choosing(TWICE, 2, 1)]
        self.assertEqual([(0, 1), (0, 2), (0, 1)], [walk.step((0,), 0) for walk in choosing + choosing[:1]])


if __name__ == "__main__":
    unittest.main()
