"""What is promised over the whole program, across its parts."""

import itertools
import unittest

from asking import Asking
from figuretell.book import Book
from figuretell.leasts import leads, least, parting
from figuretell.machines import sign_at
from figuretell.makes import differ, machine_of
from figuretell.pieces import some
from figuretell.reader import read
from figuretell.statements import shown
from figuretell.turns import lowered, raised
from meant import ALIKE, BASES, SAYS, names_in, numbers_to_try, read_at, rows_for, says
from samples import numbers_below
from sayings import small_statement

POWERS = ((2, 2), (2, 3), (3, 2))
OF_ONE_NAME = [text for text, meaning in SAYS if len(names_in(read(text))) == 1] + [
    "x < 1000", "R[5*x + 3] = 1", "T[x] = T[3*x + 1]", "(S[x] = 3 or not B[2*x] = 1)", "x = x", "x < x"]


def opposite(statement):
    """A statement that is so of just the numbers of which this one isn't."""
    kind = statement[0]
    if kind == "not":
        return statement[1]
    if kind in ("and", "or"):
        return ("or" if kind == "and" else "and", opposite(statement[1]), opposite(statement[2]))
    if kind in ("some", "all"):
        return ("all" if kind == "some" else "some", statement[1], opposite(statement[2]))
    return ("not", statement)


def renamed(statement):
    """The same with another name for each some and all, and more on both sides of =, <= and <."""
    kind = statement[0]
    if kind in ("some", "all"):
        return (kind, statement[1] + "new", replaced(renamed(statement[2]), statement[1], statement[1] + "new"))
    if kind in ("not", "and", "or"):
        return (kind,) + tuple(renamed(inside) for inside in statement[1:])
    if kind in ("=", "<=", "<"):
        return (kind, statement[1] + ((3, ""),), ((1, ""),) + statement[2] + ((2, ""),))
    return statement


def replaced(statement, name, other):
    """The statement with the other name in the place of the name, where that one is free."""
    kind = statement[0]
    if kind in ("some", "all") and statement[1] == name:
        return statement
    if kind in ("some", "all"):
        return (kind, statement[1], replaced(statement[2], name, other))
    if kind in ("not", "and", "or"):
        return (kind,) + tuple(replaced(inside, name, other) for inside in statement[1:])
    return tuple(changed_sum(thing, name, other) if isinstance(thing, tuple) else thing for thing in statement)


def changed_sum(added, name, other):
    return tuple((number, other if here == name else here) for number, here in added)


class WholeTest(Asking, unittest.TestCase):
    def same(self, one, other, base, rows, most=2000):
        pair = machine_of(one, base, rows, most)
        self.assertEqual(pair, machine_of(other, base, rows, most), (shown(one), shown(other)))
        self.assertIsNone(differ(one, other, base, rows, most * most))

    def test_statements_that_say_the_same(self):
        for base, (one, other) in itertools.product(BASES, ALIKE):
            self.assertEqual(names_in(read(one)), names_in(read(other)))
            self.same(read(one), read(other), base, rows_for(base))

    def test_not_some_not_and_not_and_not(self):
        rows = rows_for(2)
        for text, meaning in SAYS:
            statement = read(text)
            self.same(("not", statement), opposite(statement), 2, rows)
            self.same(statement, ("not", opposite(statement)), 2, rows)
        below = numbers_below(51)
        for turn in range(60):
            statement = small_statement(below, ("x", "y"), 1 + turn % 3)
            self.same(("not", statement), opposite(statement), 2, rows, 100000)

    def test_names_changed_for_others_and_sums_added_on_both_sides(self):
        below = numbers_below(52)
        for base, (text, meaning) in itertools.product((2, 3, 10), SAYS):
            self.same(read(text), renamed(read(text)), base, rows_for(base), 10000)
        for turn in range(60):
            statement = small_statement(below, ("x", "y"), 1 + turn % 3)
            self.assertNotEqual(statement, renamed(statement))
            self.same(statement, renamed(statement), 2, rows_for(2), 100000)

    def test_statements_that_do_not_say_the_same(self):
        rows = rows_for(2)
        made = [read(text) for text in OF_ONE_NAME if names_in(read(text)) == ("x",)]
        for one, other in itertools.combinations(made, 2):
            answer = differ(one, other, 2, rows, 1000)
            machines = [machine_of(statement, 2, rows)[1] for statement in (one, other)]
            self.assertEqual(answer is None, machines[0] == machines[1])
            if answer is not None:
                self.assertNotEqual(*[read_at(machine, 2, answer) for machine in machines])

    def test_noughts_on_top_make_no_difference(self):
        for base, (text, meaning) in itertools.product((2, 3, 10), SAYS):
            rows = rows_for(base)
            names, machine = machine_of(read(text), base, rows)
            for numbers in itertools.islice(numbers_to_try(len(names)), 30, 60):
                self.assertEqual(int(says(meaning, rows, numbers)), read_at(machine, base, numbers))
                if len(names) == 1:
                    self.whole(int(says(meaning, rows, numbers)), sign_at(machine, numbers[0]))

    def test_each_room_has_a_lead_and_each_two_a_parting(self):
        for base, (text, meaning) in itertools.product((2, 10), SAYS):
            names, machine = machine_of(read(text), base, rows_for(base))
            self.assertEqual(machine, least(machine))
            self.assertNotIn(None, leads(machine))
            for one, other in itertools.combinations(range(len(machine[1])), 2):
                self.assertIsNotNone(parting(machine, one, other))

    def test_raised_to_a_power_of_the_base(self):
        for (base, power), text in itertools.product(POWERS, OF_ONE_NAME):
            rows = rows_for(base)
            raised_rows = {name: raised(machine, power) for name, machine in rows.items()}
            names, machine = machine_of(read(text), base, rows, 1000)
            great = machine_of(read(text), base ** power, raised_rows, 1000)
            self.assertEqual((names, raised(machine, power)), great)
            self.assertEqual(machine, lowered(great[1], base, 1000))

    def test_of_no_names_the_same_in_each_base(self):
        for text in ("all x: some y: x < y", "some x: all y: x < y", "all x: all y: (x < y or y <= x)", "5 = 5"):
            answers = {machine_of(read(text), base) for base in BASES}
            self.assertEqual(1, len(answers))

    def test_some_of_the_machine_is_the_machine_of_some(self):
        for base, text in itertools.product((2, 3, 10), ("x = 3*y + z", "(x < y and y < z)", "R[x + y] = T[z]")):
            rows = rows_for(base)
            names, machine = machine_of(read(text), base, rows, 1000)
            for at, name in enumerate(names):
                others = tuple(other for other in names if other != name)
                self.assertEqual((others, some(machine, base, 3, at, 1000)),
                                 machine_of(("some", name, read(text)), base, rows, 1000))

    def test_the_machine_of_a_text_kept_as_a_row(self):
        for base, text in itertools.product((2, 3, 10), OF_ONE_NAME):
            book = Book(base, 1000)
            for name, machine in rows_for(base).items():
                book.keep(name, machine)
            names, machine = book.made(text)
            book.keep("M", machine)
            for turn, (number,) in enumerate(numbers_to_try(1)):
                self.whole(read_at(machine, base, (number,)), book.sign("M", number))
                if turn % 20 == 0:
                    self.assertEqual(book.holds(text, {names[0]: number}), book.sign("M", number) == 1)
            self.assertEqual((("x",), machine), book.made("M[x] = 1"))
            self.assertIsNone(book.differ(text, "M[" + names[0] + "] = 1"))
            self.assertEqual(book.count_of(text, 10 ** 18), book.count_of("M[n] = 1", 10 ** 18))
            self.assertEqual(book.last_of(text), book.last_of("M[n] = 1"))


if __name__ == "__main__":
    unittest.main()
