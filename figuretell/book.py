"""Books, which keep rows of signs by names and are asked texts about them."""

from figuretell.counts import count_below
from figuretell.ends import last_number
from figuretell.errors import NoMachine, NoName, NoRow, NoSome
from figuretell.figures import is_whole_from
from figuretell.firsts import fitting, least_numbers
from figuretell.machines import is_machine, is_steady, sign_at, sign_at_all
from figuretell.makes import differ, machine_of, need_base, need_rows
from figuretell.reader import read
from figuretell.statements import free, is_row_name
from figuretell.turns import turned


class Book:
    def __init__(self, base=2, most=200):
        need_base(base)
        self.base = base
        self.most = most
        self.rows = {}

    def keep(self, name, machine):
        need_row_name(name)
        self.need_machine(machine)
        if not is_steady(machine):
            raise NoMachine("the machine isn't steady")
        self.rows[name] = machine

    def grow(self, name, rules, signs):
        need_row_name(name)
        machine = (self.base, rules, signs)
        self.need_machine(machine)
        if rules[0][0] != 0:
            raise NoMachine("the first kind isn't replaced by kinds that begin with it")
        self.rows[name] = turned(machine, self.most)

    def drop(self, name):
        self.need_kept(name)
        self.rows.pop(name)

    def kept(self):
        return tuple(sorted(self.rows))

    def sign(self, name, number):
        self.need_kept(name)
        return sign_at(self.rows[name], number)

    def made(self, text):
        return self.made_of(read(text))

    def holds(self, text, numbers=None):
        statement = self.asked(text)
        row = numbers_for(free(statement), numbers)
        return sign_at_all(self.made_of(statement)[1], self.base, row) == 1

    def least_of(self, text):
        pair = self.made(text)
        return least_numbers(pair[1], self.base, len(pair[0]))

    def witness(self, text, numbers=None):
        statement = read(text)
        if statement[0] != "some":
            raise NoSome("the statement isn't one of some")
        need_rows(statement, self.rows)
        row = numbers_for(free(statement), numbers)
        pair = self.made_of(statement[2])
        names = pair[0]
        if statement[1] in names:
            return fitting(pair[1], self.base, len(names), names.index(statement[1]), row)
        return 0 if sign_at_all(pair[1], self.base, row) == 1 else None

    def count_of(self, text, below):
        return count_below(self.made_of_one(text), below)

    def last_of(self, text):
        return last_number(self.made_of_one(text))

    def differ(self, one, other):
        # Both are read before anything else of either is looked at.
        return differ(read(one), read(other), self.base, self.rows, self.most)

    def need_machine(self, thing):
        if not is_machine(thing) or thing[0] != self.base:
            raise NoMachine("this is no machine with a wide of the book's base")

    def need_kept(self, name):
        need_row_name(name)
        if name not in self.rows:
            raise NoRow(f"no row {name} is kept")

    def asked(self, text):
        statement = read(text)
        need_rows(statement, self.rows)
        return statement

    def made_of(self, statement):
        return machine_of(statement, self.base, self.rows, self.most)

    def made_of_one(self, text):
        """The machine of a text that has one free name."""
        statement = self.asked(text)
        if len(free(statement)) != 1:
            raise NoName("the statement has not just one free name")
        return self.made_of(statement)[1]


def need_row_name(thing):
    if not is_row_name(thing):
        raise NoRow("this is no row's name")


def numbers_for(names, numbers):
    """The row of numbers that a dict has for the names."""
    given = {} if numbers is None else numbers
    row = []
    for name in names:
        number = given.get(name)
        if not is_whole_from(number, 0):
            raise NoName(f"there is no number for the name {name}")
        row.append(number)
    return row
