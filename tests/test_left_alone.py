"""What is handed in stays as it was, and whatever is asked meanwhile, the answers stay the same."""

import copy
import itertools
import unittest

from figuretell.book import Book
from figuretell.counts import count_below, ways
from figuretell.ends import endless, last_number
from figuretell.errors import FigureError
from figuretell.firsts import first_number, fitting
from figuretell.leasts import leads, least, parting
from figuretell.makes import differ, machine_of
from figuretell.pieces import changed, paired, some, widened
from figuretell.reader import read
from figuretell.statements import depth, free, rows_of, shown
from figuretell.sums import Looking, Meeting, Within
from figuretell.turns import grown_row, lowered, raised, turned
from figuretell.walks import Choosing, Narrowing, Pairing, Reading, Walk, grown
from meant import rows_for
from samples import ODD_ONES, REST_OF_THREE, TWICE, steady_machines

X = ((1, "x"),)
TEXTS = ("x < y", "T[x] = T[x + 1]", "some y: (x = 3*y and R[y] = 1)", "all y: (y < x or S[y] = 0)", "Q[x] = 1", "x =",
         "(T[x] = 1 or S[x] = 3)", "1 = 1", "a + b + c + d + e = f + g + h + i + j", "x < 999999",
         "some y: x + 1 = 2*y")


def mixed(one, other):
    return 10 * one + other


def questions(machine):
    """Of a machine of two numbers in base 2, with three rooms or more."""
    return [
        (leads, machine), (parting, machine, 0, 1), (parting, machine, 2, 1), (least, machine),
        (grown, Reading(machine), 4), (grown, Reading(machine), 4, 1), (paired, machine, machine, mixed),
        (paired, machine, TWICE, mixed, 2), (changed, machine, abs), (widened, machine, 2, 2, 1),
        (widened, machine, 32, 1, 1), (some, machine, 2, 2, 0), (some, machine, 2, 2, 1, 1), (turned, machine),
        (turned, machine, 1), (raised, machine, 2), (raised, machine, 5), (lowered, machine, 2), (lowered, machine, 3),
        (lowered, machine, 2, 2), (grown_row, ((0, 1), (1, 0)), machine[2], 20), (first_number, machine),
        (first_number, machine, 2, 10 ** 20), (fitting, machine, 2, 2, 0, (5,)),
        (fitting, machine, 2, 2, 1, [10 ** 20]), (ways, machine, 20), (count_below, machine, 10 ** 20),
        (count_below, machine, 99, 2), (last_number, machine), (last_number, machine, 2), (endless, machine),
        (endless, machine, 2), (endless, machine, 0),
    ]


def questions_of_book(book, numbers):
    asked = [(book.kept,)]
    for text in TEXTS:
        asked.extend([(book.made, text), (book.holds, text), (book.holds, text, numbers), (book.least_of, text),
                      (book.witness, text, numbers), (book.count_of, text, 100), (book.last_of, text)])
        asked.extend([(book.differ, text, "T[x] = 1"), (book.differ, "x < 5", text)])
    for name in ("T", "R", "S", "Q", None):
        asked.extend([(book.sign, name, 12), (book.sign, name, 10 ** 18), (book.sign, name, -1)])
    return asked


def answer(question):
    try:
        return question[0](*question[1:])
    except FigureError as error:
        return (error.__class__.__name__, getattr(error, "most", None))


class LeftAloneTest(unittest.TestCase):
    def test_machines_stay_as_they_are(self):
        for machine in [TWICE] + list(steady_machines(10, 4, 4, 3)):
            before = copy.deepcopy(machine)
            for question in questions(machine):
                answer(question)
                self.assertEqual(before, machine)

    def test_rows_that_are_lists_stay_as_they_are_and_may_change_afterwards(self):
        for machine in [TWICE] + list(steady_machines(10, 4, 4, 2)):
            for at, other in itertools.product(range(2), range(6)):
                others = [other]
                before = fitting(machine, 2, 2, at, others)
                self.assertEqual([other], others)
                others[0] = other + 1
                after = fitting(machine, 2, 2, at, others)
                self.assertEqual((before, after), (fitting(machine, 2, 2, at, (other,)),
                                                   fitting(machine, 2, 2, at, (other + 1,))))

    def test_statements_stay_as_they_are(self):
        statement = ("all", "y", ("and", ("like", "T", ((2, "y"), (1, "x")), "S", ((1, ""),)), ("<", X, X)))
        before = copy.deepcopy(statement)
        answers = [function(statement) for function in (free, rows_of, depth, shown)]
        other = ("not", ("some", "x", statement))
        self.assertEqual(((), ("S", "T"), 4), (free(other), rows_of(other), depth(other)))
        self.assertEqual(answers, [function(statement) for function in (free, rows_of, depth, shown)])
        self.assertEqual(before, statement)

    def test_walks_stay_as_they_are(self):
        one = Reading(TWICE)
        other = Choosing(TWICE, 2, 1)
        narrow = Narrowing(Reading(ODD_ONES), 2, 0)
        pair = Pairing(one, narrow, mixed)
        before = [copy.deepcopy(vars(walk)) for walk in (one, other, narrow.walk, Walk())]
        for walk in (one, other, narrow, pair, Pairing(pair, one, mixed)):
            answer((grown, walk, 2))
            answer((grown, walk, 2, 1))
        self.assertEqual(before, [vars(walk) for walk in (one, other, narrow.walk, Walk())])
        self.assertEqual((one, narrow), (pair.one, pair.other))

    def test_asked_again_after_others_were_asked(self):
        machines = [TWICE] + list(steady_machines(10, 4, 4, 3))
        before = [answer(question) for machine in machines for question in questions(machine)]
        for machine in reversed(machines):
            after = [answer(question) for question in reversed(questions(machine))]
            self.assertEqual(len(questions(TWICE)), len(after))
        self.assertEqual(before, [answer(question) for machine in machines for question in questions(machine)])

    def test_walks_know_of_those_alone_that_they_were_made_of(self):
        first = Pairing(Reading(ODD_ONES), Reading(REST_OF_THREE), mixed)
        before = grown(first, 2)
        second = Pairing(Reading(REST_OF_THREE), Reading(ODD_ONES), max)
        self.assertNotEqual(before, grown(second, 2))
        self.assertEqual(before, grown(first, 2))
        choosing = [Choosing(TWICE, 2, 0), Choosing(TWICE, 2, 1)]
        self.assertEqual([(0, 1), (0, 2), (0, 1)], [walk.step((0,), 0) for walk in choosing + choosing[:1]])

    def test_statements_and_rows_asked_for_machines_stay_as_they_are(self):
        rows = rows_for(2)
        statements = [read(text) for text in TEXTS if text != "x ="]
        before = copy.deepcopy((rows, statements))
        first = []
        for one, other in itertools.product(statements, repeat=2):
            first.append((answer((machine_of, one, 2, rows)), answer((differ, one, other, 2, rows, 50))))
            self.assertEqual(before, (rows, statements))
        again = []
        for one, other in itertools.product(statements, repeat=2):
            answer((machine_of, other, 3, rows_for(3)))
            again.append((answer((machine_of, one, 2, rows)), answer((differ, one, other, 2, rows, 50))))
        self.assertEqual(first, again)
        rows["T"] = rows["R"]
        self.assertNotEqual(first[len(statements)][0], machine_of(statements[1], 2, rows))
        self.assertEqual(first[len(statements)][0], machine_of(statements[1], 2, rows_for(2)))

    def test_walks_of_sums_stay_as_they_are(self):
        for walk in (Meeting([1, -2], 5, 2), Within((1, -2), -5, 2), Looking(ODD_ONES, [1, 2], 5, 2)):
            before = copy.deepcopy(vars(walk))
            answers = [answer((grown, walk, 4)), answer((grown, walk, 4, 1)), answer((grown, walk, 4))]
            self.assertEqual(answers[0], answers[2])
            self.assertEqual(before, vars(walk))

    def test_books_asked_again_after_others_were_asked(self):
        numbers = {"x": 12, "y": 40, "z": -1}
        books = [Book(2), Book(2, 30), Book(10), Book(3, 5)]
        for book in books:
            for name in ("T", "R", "S"):
                book.keep(name, rows_for(book.base)[name])
        before = [[answer(question) for question in questions_of_book(book, numbers)] for book in books]
        self.assertEqual(4, len({repr(answers) for answers in before}))
        other = Book(2)
        other.grow("T", ((0, 1), (0, 0)), (0, 1))
        for book in reversed(books):
            for question in reversed(questions_of_book(book, numbers)):
                answer(question)
                answer((other.holds, "T[5] = T[6]"))
        other.drop("T")
        after = [[answer(question) for question in questions_of_book(book, numbers)] for book in books]
        self.assertEqual(before, after)
        self.assertEqual({"x": 12, "y": 40, "z": -1}, numbers)

    def test_what_was_handed_to_a_book_may_change_afterwards(self):
        book = Book(2)
        rows = rows_for(2)
        for name, machine in rows.items():
            book.keep(name, machine)
        numbers = {"x": 12, "y": 40}
        before = [answer(question) for question in questions_of_book(book, dict(numbers))]
        self.assertIs(True, book.holds("x < y", numbers))
        rows["T"] = TWICE
        rows.pop("R")
        numbers["x"] = 50
        self.assertIs(False, book.holds("x < y", numbers))
        self.assertEqual(before, [answer(question) for question in questions_of_book(book, {"x": 12, "y": 40})])
        names = list(book.kept())
        names.append("Q")
        self.assertEqual(("B", "P", "R", "S", "T"), book.kept())


if __name__ == "__main__":
    unittest.main()
