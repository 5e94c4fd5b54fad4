"""What a book refuses, with which class, which refusal comes first, and that what is refused changes nothing."""

import itertools
import unittest

from asking import Asking, Strange, no_wholes
from figuretell.book import Book
from figuretell.errors import NoFigures, NoMachine, NoName, NoRow, NoSome, NoText, TooGreat, TooWide
from figuretell.reader import read
from figuretell.turns import turned
from known import rest_by
from meant import needed, rows_for
from samples import ODD_ONES, REST_OF_THREE, TWICE, made_machines

THUE = (((0, 1), (1, 0)), (0, 1))
NO_NAMES = ["", "a", "t", "ABCDEFG", "T1", "1", "T ", " T", "AB C", "T\n", "\n", "Aa", "T[x]", "_", "\u00c4", "\u0410",
            b"T", ["T"], ("T",), 7, -1, {"T": 1}, ODD_ONES]
NO_MACHINES = [
    list(ODD_ONES), ODD_ONES[:2], ODD_ONES + (0,), (2, [(0, 1), (1, 0)], (0, 1)), (2, ([0, 1], [1, 0]), (0, 1)),
    (2, ((0, 1), (1, 0)), [0, 1]), (2, ((0, 1), (1, 2)), (0, 1)), (2, ((0, 1), (1, -1)), (0, 1)), (2, (), ()),
    (2, ((0, 1), (1, 0)), (0, 1, 1)), (2, ((0, 1), (1, 0)), (0, 1000000)), (2, ((0, 1), (1, 0)), (0, True)),
    (2, ((0, 1), (1, 0)), (0, -1)), (True, ((0,),), (0,)), (2, ((0, 1), (1, 0, 0)), (0, 1)),
    (2, ((0, 1), (1,)), (0, 1)), (0, ((),), (0,)), "machine", 2, (2, ((0, Strange()),), (0,)),
    (2, Strange(), Strange()),
]
OTHER_WIDES = [(1, ((0,),), (0,)), rest_by(3, 3), TWICE, rest_by(2, 10), (1000, ((0,) * 1000,), (1,))]
UNSTEADY = [REST_OF_THREE, (2, ((1, 0), (1, 1)), (0, 1)), (2, ((0, 1), (2, 1), (0, 2)), (3, 4, 5))]


class BookTest(Asking, unittest.TestCase):
    def setUp(self):
        self.book = Book(2, 20)
        for name in ("T", "R", "P"):
            self.book.keep(name, rows_for(2)[name])

    def told(self):
        book = self.book
        return (book.kept(), [[book.sign(name, number) for number in range(50)] for name in book.kept()],
                [book.made(name + "[x] = 1") for name in book.kept()])

    def unchanged(self, kind, function, *arguments):
        before = self.told()
        if kind is TooGreat:
            self.too_great(20, function, *arguments)
        else:
            self.refused(kind, function, *arguments)
        self.assertEqual(before, self.told())


class RowsRefusedTest(BookTest):
    def test_whatever_is_no_base(self):
        for base in no_wholes() + [-10 ** 30, -2, -1, 0, 1, 11, 12, 100, 10 ** 30]:
            self.refused(NoFigures, Book, base)
            self.refused(NoFigures, Book, base, 5)
        for base in range(2, 11):
            self.assertEqual((), Book(base).kept())

    def test_whatever_is_no_name(self):
        for name in NO_NAMES + no_wholes():
            for machine in (ODD_ONES, None, REST_OF_THREE, TWICE):
                self.refused(NoRow, self.book.keep, name, machine)
            self.refused(NoRow, self.book.grow, name, *THUE)
            self.refused(NoRow, self.book.grow, name, None, None)
            self.refused(NoRow, self.book.drop, name)
            for number in (0, -1, None):
                self.refused(NoRow, self.book.sign, name, number)
        self.assertEqual(("P", "R", "T"), self.book.kept())

    def test_whatever_is_no_machine(self):
        for machine in no_wholes() + NO_MACHINES + OTHER_WIDES + UNSTEADY + [0, 7, "T", Book(), (), (2, 2, 2)]:
            for name in ("T", "NEW"):
                self.unchanged(NoMachine, self.book.keep, name, machine)

    def test_machines_of_another_wide(self):
        for base in range(2, 11):
            book = Book(base)
            for wide in range(1, 12):
                machine = (wide, ((0,) * wide,), (7,))
                rules = ((0,) * wide,)
                if wide == base:
                    self.assertIsNone(book.keep("T", machine))
                    self.assertIsNone(book.grow("G", rules, (7,)))
                else:
                    self.refused(NoMachine, book.keep, "T", machine)
                    self.refused(NoMachine, book.grow, "G", rules, (7,))

    def test_unsteady_machines(self):
        for machine in made_machines(60, 2, 4, 2):
            reached = {0}
            for turn in range(4):
                reached |= {there for here in reached for there in machine[1][here]}
            if all(machine[2][machine[1][here][0]] == machine[2][here] for here in reached):
                self.assertIsNone(Book().keep("T", machine))
            else:
                self.unchanged(NoMachine, self.book.keep, "T", machine)

    def test_whatever_are_no_rules_and_no_signs(self):
        rules, signs = THUE
        no_rules = [
            0, 7, "T", list(rules), ([0, 1], [1, 0]), ((0, 1), [1, 0]), ((0, 1), (1, 2)), ((), ()), ((0, 1), (1,)),
            ((0, 1), (1, 0, 0)), ((0,), (1,)), ((0, 1, 0), (1, 0, 1)), ((0, 1),), ((0, 1), (1, -1)),
            ((0, 1), (1, True)), ((0, 1), (1, 0), (0, 0)), ((1, 0), (0, 1)), ((1, 1), (1, 1)),
            ((0, Strange()), (1, 0)), (Strange(), (0, 1)),
        ]
        for thing in no_wholes() + no_rules:
            self.unchanged(NoMachine, self.book.grow, "T", thing, signs)
            self.unchanged(NoMachine, self.book.grow, "NEW", thing, signs)
        for thing in no_wholes() + [0, 7, "01", [0, 1], (0,), (0, 1, 1), (0, -1), (0, 1000000), (0, True), (0, "1"),
                                    (0, Strange())]:
            self.unchanged(NoMachine, self.book.grow, "T", rules, thing)
            self.unchanged(NoMachine, self.book.grow, "NEW", rules, thing)

    def test_rules_that_do_not_begin_with_the_first_kind(self):
        for first in ((1, 0), (1, 1), (2, 0), (2, 2)):
            self.unchanged(NoMachine, self.book.grow, "T", (first, (0, 1), (2, 2)), (0, 1, 2))
        for first in ((0, 0), (0, 1), (0, 2)):
            self.assertIsNone(self.book.grow("T", (first, (0, 1), (2, 2)), (0, 1, 2)))

    def test_rows_that_are_too_great_to_be_grown(self):
        met = 0
        for machine in made_machines(30, 2, 6, 3):
            rules = ((0,) + machine[1][0][1:],) + machine[1][1:]
            rooms = len(turned((2, rules, machine[2]), 1000000)[1])
            if rooms > 1:
                Book(2, rooms).grow("G", rules, machine[2])
                self.too_great(rooms - 1, Book(2, rooms - 1).grow, "G", rules, machine[2])
            if rooms > 20:
                met += 1
                self.unchanged(TooGreat, self.book.grow, "T", rules, machine[2])
                self.unchanged(TooGreat, self.book.grow, "NEW", rules, machine[2])
                # What is no name, or no rules, is refused ahead of that.
                self.unchanged(NoRow, self.book.grow, "new", rules, machine[2])
                self.unchanged(NoMachine, self.book.grow, "NEW", ((1, 0),) + rules[1:], machine[2])
        self.assertGreater(met, 3)

    def test_a_name_is_refused_ahead_of_a_machine(self):
        for name, machine in itertools.product(("t", "", None, "ABCDEFG"), (None, REST_OF_THREE, TWICE, 7)):
            self.unchanged(NoRow, self.book.keep, name, machine)
            self.unchanged(NoRow, self.book.grow, name, machine, machine)

    def test_rows_that_are_not_kept(self):
        for name in ("Q", "TT", "NEW", "ABCDEF"):
            self.unchanged(NoRow, self.book.drop, name)
            for number in no_wholes() + [0, 5, -1]:
                self.refused(NoRow, self.book.sign, name, number)
        self.book.drop("T")
        self.unchanged(NoRow, self.book.drop, "T")
        self.unchanged(NoRow, self.book.sign, "T", 5)
        self.unchanged(NoRow, self.book.made, "T[x] = 1")
        self.book.keep("T", ODD_ONES)
        self.assertEqual(1, self.book.sign("T", 7))
        self.refused(NoRow, Book().sign, "T", 0)
        self.refused(NoRow, Book().drop, "T")

    def test_the_sign_at_what_is_no_number(self):
        for number in no_wholes() + [-1, -10 ** 30]:
            self.refused(NoFigures, self.book.sign, "T", number)


# Nine names and one more, of which none is free outside; ten are too many in base 2.
WIDE = "".join("some " + name + ": " for name in "abcdefghij") + "a + b + c + d + e = f + g + h + i + j"
GREAT = "x < 999999"
FAULTS = ((NoRow, "Q[x] = 1"), (NoName, "more < 2"), (TooWide, WIDE), (TooGreat, GREAT))
# What the methods look at, from what comes first on.
ORDER = (NoText, NoSome, NoRow, NoName, TooWide, TooGreat)
NAMED = {"x": 3, "n": 5}


def joined(pieces):
    text = pieces[0]
    for at, piece in enumerate(pieces[1:]):
        text = "(" + text + (" and ", " or ")[at % 2] + piece + ")"
    return text


def faulty_texts():
    """Texts with each choice of faults, in turned order of their pieces too, and the faults that they have."""
    for many in range(len(FAULTS) + 1):
        for chosen in itertools.combinations(FAULTS, many):
            pieces = ["x = 3"] + [piece for kind, piece in chosen]
            kinds = [kind for kind, piece in chosen]
            for text in (joined(pieces), joined(pieces[::-1]), "not " + joined(pieces[1:] + pieces[:1])):
                yield kinds, text
                yield kinds + [NoText], text + " "
                yield kinds + [NoText], "(" + text


class TextsRefusedTest(BookTest):
    def first_due(self, looked_at, kinds, function, *arguments):
        due = [kind for kind in ORDER if kind in kinds and kind in looked_at]
        if not due:
            return function(*arguments)
        if due[0] is TooGreat:
            self.too_great(20, function, *arguments)
        else:
            self.refused(due[0], function, *arguments)
        return None

    def test_made_and_least_of(self):
        looked_at = (NoText, NoRow, TooWide, TooGreat)
        for kinds, text in faulty_texts():
            self.first_due(looked_at, kinds, self.book.made, text)
            self.first_due(looked_at, kinds, self.book.least_of, text)

    def test_holds(self):
        looked_at = (NoText, NoRow, NoName, TooWide, TooGreat)
        for kinds, text in faulty_texts():
            self.first_due(looked_at, kinds, self.book.holds, text, NAMED)
            self.first_due(looked_at, kinds + [NoName], self.book.holds, text)
            self.first_due(looked_at, kinds + [NoName], self.book.holds, text, {})
            self.first_due([kind for kind in looked_at if kind is not NoName], kinds, self.book.holds, text,
                           {**NAMED, "more": 1})

    def test_witness(self):
        for kinds, text in faulty_texts():
            self.first_due(ORDER, kinds, self.book.witness, "some n: " + text, NAMED)
            self.first_due(ORDER, kinds + [NoName], self.book.witness, "some n: " + text)
            self.first_due(ORDER, kinds + [NoSome], self.book.witness, "all n: " + text, NAMED)
            self.first_due(ORDER, kinds + [NoSome], self.book.witness, "not some n: " + text, NAMED)
            self.first_due(ORDER, kinds + [NoSome], self.book.witness, text, NAMED)
            # The name of some is none for which a number is needed.
            free_one = [kind for kind in kinds if kind is not NoName]
            self.first_due(ORDER, free_one, self.book.witness, "some more: " + text, NAMED)

    def test_count_of_and_last_of(self):
        looked_at = (NoText, NoRow, NoName, TooWide, TooGreat)
        for kinds, text in faulty_texts():
            self.first_due(looked_at, kinds, self.book.count_of, text, 100)
            self.first_due(looked_at, kinds, self.book.last_of, text)
            self.first_due(looked_at, kinds + [NoName], self.book.count_of, "some x: some more: " + text, 100)
            self.first_due(looked_at, kinds + [NoName], self.book.last_of, "all more: all x: " + text)

    def test_differ(self):
        looked_at = (NoText, NoRow, TooWide, TooGreat)
        for kinds, text in faulty_texts():
            self.first_due(looked_at, kinds, self.book.differ, text, "x = 3")
            self.first_due(looked_at, kinds, self.book.differ, "x = 3", text)
        short = list(faulty_texts())[::7]
        for (kinds, text), (other_kinds, other) in itertools.product(short, repeat=2):
            self.first_due(looked_at, kinds + other_kinds, self.book.differ, text, other)

    def test_whatever_is_no_text(self):
        for text in no_wholes() + [7, "x", "x=y", "x = y\n", "x = y ", "(x = y)", ["x = y"], read("x = y")]:
            for function in (self.book.made, self.book.holds, self.book.least_of, self.book.witness, self.book.last_of):
                self.refused(NoText, function, text)
            self.refused(NoText, self.book.holds, text, NAMED)
            self.refused(NoText, self.book.witness, text, NAMED)
            self.refused(NoText, self.book.count_of, text, 5)
            for other in ("x = y", text, "Q[x] = 1", WIDE, GREAT):
                self.refused(NoText, self.book.differ, text, other)
                self.refused(NoText, self.book.differ, other, text)

    def test_numbers_that_are_none(self):
        for number in no_wholes() + [-1, -10 ** 30]:
            self.refused(NoName, self.book.holds, "x < y", {"x": 3, "y": number})
            self.refused(NoName, self.book.holds, "x < y", {"x": number, "y": 3})
            self.refused(NoName, self.book.witness, "some z: (x < y and y < z)", {"x": 3, "y": number})
        for named in (None, {}, {"X": 3}, {"xx": 3}, {"y": 3}):
            self.refused(NoName, self.book.holds, "x = x", named)
            self.refused(NoName, self.book.holds, "some y: x = y", named)
            self.refused(NoName, self.book.witness, "some y: x = y", named)
        self.refused(NoName, self.book.holds, "x = 1")
        self.refused(NoName, self.book.witness, "some y: x = 1")

    def test_not_just_one_free_name(self):
        for text in ("1 = 1", "x = y", "some x: x = 1", "(x = 1 and y = 2)", "x + y + z = 9", "all x: some y: x < y"):
            self.refused(NoName, self.book.count_of, text, 5)
            self.refused(NoName, self.book.last_of, text)
        for text in ("x = x + 1", "some y: x = y", "all x: (x < n or n <= x)"):
            self.assertEqual(0 if " + 1" in text else 5, self.book.count_of(text, 5))

    def test_statements_that_are_no_some(self):
        for text in ("x = 3", "not some y: x = y", "all y: x = y", "(some y: x = y and some y: x = y)", "T[x] = 1"):
            self.refused(NoSome, self.book.witness, text, NAMED)
            self.refused(NoSome, self.book.witness, text)

    def test_of_a_witness_the_machine_of_what_is_inside_is_asked(self):
        rows = rows_for(2)
        met = 0
        for text in ("some y: (R[y] = 1 and x < y)", "some y: (not R[x] = R[y] or S[x + y] = 3)", "some y: x = 3*y",
                     "some y: (x < y or (B[y] = 1 and R[x + 2*y] = 2))", "some z: (R[x] = 1 and S[x] = 3)"):
            statement = read(text)
            inside, whole = needed(statement[2], 2, rows), needed(statement, 2, rows)
            met += whole > inside
            for most in (inside - 1, inside, whole - 1, whole):
                book = Book(2, most)
                for name, machine in rows.items():
                    book.keep(name, machine)
                if most < inside:
                    self.too_great(most, book.witness, text, {"x": 5})
                else:
                    book.witness(text, {"x": 5})
                if most < whole:
                    self.too_great(most, book.holds, text, {"x": 5})
                    self.too_great(most, book.made, text)
                    self.too_great(most, book.least_of, text)
                    self.too_great(most, book.count_of, text, 5)
                    self.too_great(most, book.last_of, text)
                    self.too_great(most, book.differ, text, "1 = 1")
                    self.too_great(most, book.differ, "1 = 1", text)
                else:
                    book.holds(text, {"x": 5})
        self.assertGreater(met, 1)

    def test_just_wide_enough(self):
        book = Book(10)
        self.assertEqual(1000, book.made("x + y = z")[1][0])
        self.assertIs(True, book.holds("x + y = z", {"x": 3, "y": 4, "z": 7}))
        self.assertEqual(7, book.witness("some z: x + y = z", {"x": 3, "y": 4}))
        self.refused(TooWide, book.made, "x + y = z + w")
        self.refused(TooWide, book.witness, "some w: x + y = z + w", {"x": 3, "y": 4, "z": 7})
        self.refused(TooWide, book.least_of, "x + y = z + w")
        self.refused(TooWide, book.differ, "x = y", "z = w")
        self.refused(TooWide, book.count_of, "some y: some z: some w: x + y = z + w", 7)
        self.refused(TooWide, book.last_of, "some y: some z: some w: x + y = z + w")

    def test_texts_change_nothing(self):
        before = self.told()
        for kinds, text in faulty_texts():
            for function in (self.book.made, self.book.holds, self.book.least_of, self.book.witness, self.book.last_of):
                try:
                    function(text)
                except ValueError:
                    pass
        self.assertEqual(before, self.told())


if __name__ == "__main__":
    unittest.main()
