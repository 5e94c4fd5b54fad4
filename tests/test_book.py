import itertools
import unittest

from asking import Asking
from figuretell.book import Book
from figuretell.makes import differ, machine_of
from figuretell.reader import read
from known import plain_sign, rest_by, signs_at
from meant import ALIKE, SAYS, names_in, numbers_to_try, rows_for, says
from samples import ODD_ONES, joint_of, made_machines, plain_figures, plain_room, row_of, steady_machines
from sayings import is_so

THUE = (((0, 1), (1, 0)), (0, 1))
PERIOD = (((0, 1), (0, 0)), (5, 999999))
# Three kinds, one of which never stands.
THREES = (((0, 2, 0), (1, 1, 1), (2, 2, 2)), (1, 7, 0))


def book_with_rows(base, most=200):
    book = Book(base, most)
    for name, machine in rows_for(base).items():
        book.keep(name, machine)
    return book


def grown_plainly(rules, signs, long):
    """The first signs of the row, by its words: in each turn each kind is replaced."""
    kinds = (0,)
    while len(kinds) < long:
        kinds = tuple(there for kind in kinds for there in rules[kind])
    return tuple(signs[kind] for kind in kinds[:long])


def rules_of(machine):
    """The machine's rows and signs, bent so that the first kind is replaced by kinds that begin with it."""
    return ((0,) + machine[1][0][1:],) + machine[1][1:], machine[2]


class RowsTest(Asking, unittest.TestCase):
    def test_rows_that_are_kept(self):
        for base in (2, 3, 10):
            rows = rows_for(base)
            book = Book(base)
            self.assertEqual((), book.kept())
            for name, machine in rows.items():
                self.assertIsNone(book.keep(name, machine))
            self.assertEqual(("B", "P", "R", "S", "T"), book.kept())
            for name, machine in rows.items():
                for (number,) in numbers_to_try(1):
                    self.whole(plain_sign(machine, number), book.sign(name, number))

    def test_names_of_rows(self):
        book = Book()
        names = ("Z", "A", "ABCDEF", "ZZZZZZ", "AB", "AND", "SOME", "B")
        for name in names:
            book.keep(name, ODD_ONES)
        self.assertIs(tuple, type(book.kept()))
        self.assertEqual(tuple(sorted(names)), book.kept())
        for name in names:
            self.assertTrue(book.holds(name + "[1] = 1"))

    def test_rows_that_are_grown(self):
        for base, rows in ((2, THUE), (2, PERIOD), (3, THREES)):
            book = Book(base)
            self.assertIsNone(book.grow("G", *rows))
            signs = grown_plainly(*rows, 1000)
            self.wholes(signs, tuple(book.sign("G", number) for number in range(1000)))
            for number in (10 ** 17, 10 ** 18 - 1, 10 ** 300 - 1):
                down = plain_room((base,) + rows, plain_figures(number, base)[::-1])
                self.whole(rows[1][down], book.sign("G", number))

    def test_rows_that_are_grown_by_rules_without_plan(self):
        for base, rooms in ((2, 4), (3, 3), (10, 3)):
            for machine in made_machines(12, base, rooms, 3):
                rules, signs = rules_of(machine)
                book = Book(base)
                book.grow("G", rules, signs)
                self.assertEqual(grown_plainly(rules, signs, 300), tuple(book.sign("G", n) for n in range(300)))
                for number in (7, 260):
                    self.assertTrue(book.holds("G[x] = " + str(book.sign("G", number)), {"x": number}))

    def test_a_row_kept_anew_stands_in_the_place_of_what_was(self):
        book = Book()
        book.keep("T", ODD_ONES)
        book.keep("U", ODD_ONES)
        self.assertEqual((1, 1), (book.sign("T", 7), book.sign("U", 7)))
        book.keep("T", rest_by(5, 2))
        self.assertEqual((2, 1), (book.sign("T", 7), book.sign("U", 7)))
        self.assertEqual((True, False), (book.holds("T[7] = 2"), book.holds("T[7] = 1")))
        book.grow("T", *PERIOD)
        self.assertEqual(5, book.sign("T", 0))
        self.assertEqual(("T", "U"), book.kept())
        book.keep("T", ODD_ONES)
        self.assertIsNone(book.differ("T[x] = 1", "U[x] = 1"))

    def test_rows_that_are_dropped(self):
        book = book_with_rows(3)
        self.assertIsNone(book.drop("R"))
        self.assertEqual(("B", "P", "S", "T"), book.kept())
        self.assertEqual(5, book.sign("S", 0))
        book.keep("R", rest_by(2, 3))
        self.assertEqual(("B", "P", "R", "S", "T"), book.kept())
        self.assertEqual(1, book.sign("R", 5))
        for name in book.kept():
            book.drop(name)
        self.assertEqual((), book.kept())

    def test_a_machine_is_kept_as_it_is_handed_in(self):
        wasteful = (2, tuple(((here + 1) % 7, (here + 1) % 7) for here in range(7)), (4,) * 7)
        for most, refused in ((7, False), (6, True)):
            book = Book(2, most)
            book.keep("W", wasteful)
            self.assertEqual(4, book.sign("W", 10 ** 18))
            if refused:
                self.too_great(6, book.made, "W[x] = 4")
            else:
                self.assertEqual((("x",), (2, ((0, 0),), (1,))), book.made("W[x] = 4"))
        # Rooms of another sign to which no row leads make it no unsteady one.
        book.keep("V", (2, ((0, 0), (0, 1), (1, 1)), (4, 9, 8)))
        self.assertEqual(4, book.sign("V", 3))

    def test_a_grown_row_is_kept_by_its_least_turned_machine(self):
        # Twice the kinds that are needed, but the turned machine has no more rooms for it.
        double = (((0, 1), (1, 2), (2, 3), (3, 0)), (0, 1, 0, 1))
        book = Book(2, 2)
        book.grow("D", *double)
        book.grow("E", *THUE)
        self.assertEqual((("x",), ODD_ONES), book.made("D[x] = 1"))
        self.assertEqual(("D", "E"), book.kept())

    def test_two_books_beside_one_another(self):
        one, other, third = Book(2), Book(2), Book(10, 50)
        one.keep("T", ODD_ONES)
        other.keep("T", rest_by(3, 2))
        third.keep("T", rest_by(7, 10))
        self.assertEqual((0, 2, 5), (one.sign("T", 5), other.sign("T", 5), third.sign("T", 5)))
        self.assertEqual((False, False, True), tuple(book.holds("T[5] = 5") for book in (one, other, third)))
        other.drop("T")
        self.assertEqual((("T",), (), ("T",)), (one.kept(), other.kept(), third.kept()))
        self.assertEqual((True, True), (one.holds("T[7] = 1"), third.holds("T[7] = 0")))


class AskedTest(Asking, unittest.TestCase):
    def test_made(self):
        for base, (text, meaning) in itertools.product((2, 3, 10), SAYS):
            self.assertEqual(machine_of(read(text), base, rows_for(base)), book_with_rows(base).made(text))
        self.assertEqual(machine_of(read("x < y")), Book().made("x < y"))

    def test_holds(self):
        for base, (text, meaning) in itertools.product((2, 10), SAYS):
            book = book_with_rows(base)
            names = names_in(read(text))
            for numbers in list(numbers_to_try(len(names)))[::17]:
                answer = book.holds(text, dict(zip(names, numbers)))
                self.assertIs(bool(says(meaning, rows_for(base), numbers)), answer)

    def test_holds_by_numbers_for_other_names_too(self):
        book = book_with_rows(2)
        numbers = {"x": 3, "y": 5, "z": -1, "w": None, "T": 7, 5: 5, "": 0, ("x",): 1}
        self.assertIs(True, book.holds("x < y", numbers))
        self.assertIs(False, book.holds("y < x", numbers))
        self.assertIs(True, book.holds("some z: x + z = y", numbers))
        self.assertIs(True, book.holds("all z: x <= x + z", numbers))
        self.assertIs(True, book.holds("1 = 1", numbers))
        self.assertEqual({"x": 3, "y": 5, "z": -1, "w": None, "T": 7, 5: 5, "": 0, ("x",): 1}, numbers)

    def test_holds_without_free_names(self):
        book = book_with_rows(2)
        for text, so in (("1 = 1", True), ("1 = 2", False), ("T[7] = 1", True), ("all x: some y: x < y", True),
                         ("some y: all x: x < y", False)):
            for numbers in (None, {}, {"x": 1}):
                self.assertIs(so, book.holds(text, numbers))
            self.assertIs(so, book.holds(text))
            self.assertEqual(() if so else None, book.least_of(text))

    def test_numbers_that_are_not_in_order_of_their_names(self):
        book = Book(3)
        self.assertIs(True, book.holds("(b = 2 and (c = 9 and a = 4))", {"c": 9, "a": 4, "b": 2}))
        self.assertIs(False, book.holds("(b = 2 and (c = 9 and a = 4))", {"c": 4, "a": 2, "b": 9}))

    def test_holds_at_great_numbers(self):
        book = Book(10)
        number = 10 ** 299 + 12345
        self.assertIs(True, book.holds("x = 3*y + 7", {"x": 3 * number + 7, "y": number}))
        self.assertIs(False, book.holds("x = 3*y + 7", {"x": 3 * number + 8, "y": number}))

    def test_least_of(self):
        for base in (2, 3, 10):
            book = book_with_rows(base)
            rows = rows_for(base)
            for text in ("x = 57", "(12 < x and R[x] = 2)", "x < x", "x + y = 7", "(x = 2*y and 3 < y)", "y < x",
                         "(y + 2 < x and T[x + y] = 1)", "(x = y + z and (0 < z and z < y))", "(R[x] = 1 and x < 1)",
                         "S[x + y] = 3", "(P[x] = 1 and (P[y] = 1 and x + 9 < y))", "(b = 3 and a = 1)"):
                names = names_in(read(text))
                answer = book.least_of(text)
                bound = 800 if answer is None else joint_of(answer, base)
                for number in range(min(bound, 800)):
                    self.assertFalse(is_so(read(text), dict(zip(names, row_of(number, base, len(names)))), rows))
                if answer is not None:
                    self.wholes(answer, answer)
                    self.assertTrue(is_so(read(text), dict(zip(names, answer)), rows))
        self.wholes((999999 * 20,), Book(2, 1000).least_of("some y: (x = 20*y and y = 999999)"))
        self.wholes((1, 0), Book(2).least_of("not x = y"))

    def test_witness(self):
        for base in (2, 3, 10):
            book = book_with_rows(base)
            rows = rows_for(base)
            for text in ("some y: x = 3*y + 1", "some y: (x < y and R[y] = 1)", "some y: (T[y] = 1 and x <= 2*y)",
                         "some y: y < x", "some x: y < x", "some y: (P[y] = 1 and x < y)", "some y: S[x + y] = 3",
                         "some y: y < y", "some y: not y = x", "some b: (a < b and b < c)", "some a: (a < b or c < a)"):
                statement = read(text)
                names = names_in(statement)
                for numbers in itertools.product((0, 1, 2, 3, 7, 10, 11), repeat=len(names)):
                    named = dict(zip(names, numbers))
                    expected = [n for n in range(150) if is_so(statement[2], {**named, statement[1]: n}, rows)]
                    answer = book.witness(text, named)
                    self.assertEqual(expected[0] if expected else None, answer, (text, named))
                    self.assertIs(type(None) if answer is None else int, type(answer))

    def test_witness_at_great_numbers(self):
        book = book_with_rows(10)
        great = 10 ** 290 + 7
        self.whole(great, book.witness("some y: x = 3*y + 1", {"x": 3 * great + 1}))
        self.assertIsNone(book.witness("some y: x = 3*y + 1", {"x": 3 * great + 2}))
        self.whole(great + 1, book.witness("some y: x < y", {"x": great}))
        self.whole(10 ** 291, book.witness("some y: (P[y] = 1 and x < y)", {"x": great}))

    def test_witness_of_a_name_that_is_not_free(self):
        book = book_with_rows(2)
        for text, named, expected in (
                ("some y: x = 3", {"x": 3}, 0), ("some y: x = 3", {"x": 4}, None), ("some y: 1 = 1", None, 0),
                ("some y: 1 = 2", {}, None), ("some y: all y: y < x", {"x": 9}, None),
                ("some y: some y: y < x", {"x": 9}, 0), ("some y: T[x] = 1", {"x": 7, "y": 5}, 0)):
            answer = book.witness(text, named)
            self.assertEqual(expected, answer)
            self.assertIs(type(expected), type(answer))

    def test_witness_takes_no_notice_of_a_number_for_its_own_name(self):
        book = Book()
        for number in (0, 5, -1, None, "q"):
            self.whole(4, book.witness("some y: x < y", {"x": 3, "y": number}))
            self.whole(3, book.witness("some y: 2 < y", {"y": number}))

    def test_witness_without_other_names(self):
        book = book_with_rows(3)
        self.whole(8, book.witness("some x: 7 < x"))
        self.whole(12, book.witness("some x: S[x] = 3"))
        self.assertIsNone(book.witness("some x: x + 1 = 0", None))
        self.whole(0, book.witness("some x: all y: x <= y", {}))
        self.whole(1, book.witness("some x: some y: x = 3*y + 1"))

    def test_count_of(self):
        for base in (2, 3, 10):
            book = book_with_rows(base)
            for text, meaning in SAYS:
                if len(names_in(read(text))) == 1:
                    so = [says(meaning, rows_for(base), (number,)) for number in range(130)]
                    for below in (0, 1, 2, 29, 130):
                        self.whole(sum(so[:below]), book.count_of(text, below))
        book = book_with_rows(10)
        self.whole((10 ** 290 + 1) // 3, book.count_of("some y: x = 3*y + 1", 10 ** 290))
        self.whole(5 * 10 ** 17, book.count_of("T[n] = 1", 10 ** 18))
        self.whole(290, book.count_of("P[abc] = 1", 10 ** 290))
        self.whole(8, book.count_of("x < 8", 10 ** 290))

    def test_last_of(self):
        for base in (2, 3, 10):
            book = book_with_rows(base)
            for text, expected in (("x < 1000", 999), ("x <= 0", 0), ("x < 0", -1), ("S[x] = 3", 40),
                                   ("S[2*x] = 3", 20), ("S[x] = 0", None), ("T[x] = 1", None), ("S[x] = 4", -1),
                                   ("B[n] = 1", 19), ("not some y: some z: x = 5*y + 7*z", 23),
                                   ("x = 999999", 999999), ("x = x", None), ("all y: (x < y or y < 30)", 29),
                                   ("(R[x] = 1 and x < 99)", 97)):
                answer = book.last_of(text)
                self.assertEqual(expected, answer, text)
                self.assertIs(type(expected), type(answer))

    def test_last_of_by_what_the_statement_says(self):
        texts = ("(x < 50 and R[x] = 2)", "(S[x] = 3 or x = 7)", "(T[x] = T[x + 1] and B[2*x] = 1)", "9*x < 400 + x",
                 "some y: (x + 3*y = 40 and T[y] = 1)", "all y: (x < y + 30 or y < 3)", "(x < 10 and 20 < x)",
                 "(R[x] = 1 and 20 < x)", "not P[x + 5] = 0")
        for base, text in itertools.product((2, 3, 10), texts):
            book = book_with_rows(base)
            answer = book.last_of(text)
            so = [number for number in range(200) if is_so(read(text), {"x": number}, rows_for(base), 60)]
            if answer is None:
                # There is one more above each number, as the book tells itself.
                self.assertTrue(book.holds("all z: some x: (z < x and " + text + ")"))
                self.assertGreater(len(so), 0)
            else:
                self.assertEqual(max(so, default=-1), answer)

    def test_differ(self):
        for base in (2, 10):
            book = book_with_rows(base, 1000)
            rows = rows_for(base)
            for one, other in ALIKE:
                self.assertIsNone(book.differ(one, other))
                self.assertIsNone(book.differ(one, one))
            for one, other in itertools.combinations([text for text, other in ALIKE], 2):
                if len(set(names_in(read(one)) + names_in(read(other)))) < 4:
                    answer = book.differ(one, other)
                    self.assertEqual(differ(read(one), read(other), base, rows, 1000), answer)
                    if answer is not None:
                        self.wholes(answer, answer)
        self.assertEqual((0, 0), Book().differ("x < y", "x <= y"))
        self.assertEqual((), Book().differ("1 = 1", "1 = 2"))

    def test_texts_are_asked_by_the_rows_as_they_are_then(self):
        book = Book()
        book.keep("T", ODD_ONES)
        questions = (
            lambda: book.made("T[x] = 1"), lambda: book.holds("T[5] = 1"),
            lambda: book.least_of("(3 < x and T[x] = 1)"), lambda: book.witness("some x: (3 < x and T[x] = 1)"),
            lambda: book.count_of("T[x] = 1", 100), lambda: book.last_of("T[x] = 1"),
            lambda: book.differ("T[x] = 1", "x = 1"), lambda: book.sign("T", 5),
        )
        before = [ask() for ask in questions]
        book.keep("T", signs_at(2, {5: 1, 60: 1}))
        self.assertEqual([True, (5,), 5, 2, 60, (1,), 1], [ask() for ask in questions][1:])
        book.keep("T", ODD_ONES)
        self.assertEqual(before, [ask() for ask in questions])
        self.assertEqual([False, (4,), 4, 50, None, (2,), 0], before[1:])

    def test_what_is_left_out_of_the_arguments(self):
        book, whole = Book(), Book(2, 200)
        rows = dict(zip("ABC", steady_machines(3, 2, 4, 2)))
        for name, machine in rows.items():
            book.keep(name, machine)
            whole.keep(name=name, machine=machine)
        whole.grow(name="G", rules=THUE[0], signs=THUE[1])
        book.grow("G", *THUE)
        self.assertEqual(book.kept(), whole.kept())
        self.assertEqual(book.sign("G", 21), whole.sign(name="G", number=21))
        self.assertEqual(book.made("A[x] = B[y]"), whole.made(text="A[x] = B[y]"))
        self.assertEqual(book.holds("A[x] = 1", {"x": 9}), whole.holds(text="A[x] = 1", numbers={"x": 9}))
        self.assertEqual(book.least_of("7 < x"), whole.least_of(text="7 < x"))
        self.assertEqual(book.witness("some y: x < y", {"x": 9}), whole.witness(text="some y: x < y", numbers={"x": 9}))
        self.assertEqual(book.count_of("C[x] = 1", 99), whole.count_of(text="C[x] = 1", below=99))
        self.assertEqual(book.last_of("C[x] = 1"), whole.last_of(text="C[x] = 1"))
        self.assertEqual(book.differ("A[x] = 1", "B[x] = 1"), whole.differ(one="A[x] = 1", other="B[x] = 1"))
        self.assertIsNone(whole.drop(name="G"))
        self.assertEqual(("x",), Book(base=7, most=9).made("x = 5")[0])
        self.assertEqual(7, Book(7).made("x = 5")[1][0])
        self.assertEqual(2, Book(most=100).made("x = 5")[1][0])


if __name__ == "__main__":
    unittest.main()
