import itertools
import re
import unittest

from asking import Asking
from figuretell.statements import depth, free, rows_of, shown
from sayings import ONE, SAME, TOLD, X, Y, made_statements, nested, not_taken, text_told


class StatementsTest(Asking, unittest.TestCase):
    def texts(self, expected, answer):
        self.assertIs(tuple, type(answer))
        self.assertEqual([str] * len(answer), [type(name) for name in answer])
        self.assertEqual(expected, answer)

    def test_each_kind(self):
        for statement, text, names, rows, deep in TOLD:
            self.assertEqual(text, shown(statement))
            self.texts(names, free(statement))
            self.texts(rows, rows_of(statement))
            self.whole(deep, depth(statement))

    def test_all_joined_of_two(self):
        for (one, other), kind in itertools.product(itertools.product(TOLD, repeat=2), ("and", "or")):
            whole = (kind, one[0], other[0])
            self.assertEqual("(" + one[1] + " " + kind + " " + other[1] + ")", shown(whole))
            self.texts(tuple(sorted(set(one[2] + other[2]))), free(whole))
            self.texts(tuple(sorted(set(one[3] + other[3]))), rows_of(whole))
            self.whole(1 + max(one[4], other[4]), depth(whole))

    def test_all_made_of_one(self):
        for statement, text, names, rows, deep in TOLD:
            self.assertEqual("not " + text, shown(("not", statement)))
            self.texts(names, free(("not", statement)))
            for kind, name in itertools.product(("some", "all"), ("x", "y", "abcdef", "q")):
                whole = (kind, name, statement)
                self.assertEqual(kind + " " + name + ": " + text, shown(whole))
                self.texts(tuple(other for other in names if other != name), free(whole))
                self.texts(rows, rows_of(whole))
                self.whole(1 + deep, depth(whole))

    def test_made_statements_are_the_only_ones_with_their_texts(self):
        for statement in made_statements():
            self.assertEqual(statement, text_told(shown(statement)))

    def test_made_statements_by_what_is_in_them(self):
        for turn, statement in enumerate(made_statements()):
            self.whole(turn % 6, depth(statement))
            self.texts(tuple(sorted(set(re.findall("[A-Z]+", shown(statement))))), rows_of(statement))
            self.texts(tuple(sorted(not_taken(statement, {""}))), free(statement))

    def test_a_part_alone_and_beside_others(self):
        parts = (
            ((1, "x"), "x"), ((2, "x"), "2*x"), ((10, "x"), "10*x"), ((20, "abcdef"), "20*abcdef"), ((1, "b"), "b"),
            ((0, ""), "0"), ((1, ""), "1"), ((2, ""), "2"), ((10, ""), "10"), ((999999, ""), "999999"),
        )
        beside = (((), ""), (((1, "z"),), "z"), (((7, ""), (3, "zz")), "7 + 3*zz"))
        for (part, text), ahead, behind in itertools.product(parts, beside, beside):
            added = ahead[0] + (part,) + behind[0]
            text = " + ".join([piece for piece in (ahead[1], text, behind[1]) if piece != ""])
            self.assertEqual("y <= " + text, shown(("<=", Y, added)))
            self.assertEqual(text + " = y", shown(("=", added, Y)))
            self.assertEqual("T[" + text + "] = 20", shown(("is", "T", added, 20)))
            self.assertEqual("T[y] = U[" + text + "]", shown(("like", "T", Y, "U", added)))
            names = {name for number, name in added if name != ""}
            self.texts(tuple(sorted(names)), free(("is", "T", added, 1)))
            self.texts(tuple(sorted(names | {"y"})), free(("<", Y, added)))
            self.texts(tuple(sorted(names | {"y"})), free(("like", "T", added, "U", Y)))

    def test_names_in_each_sum(self):
        one, other = ((1, "b"), (5, ""), (2, "a")), ((7, "c"), (1, "b"), (3, "bb"))
        for kind in ("=", "<=", "<"):
            self.texts(("a", "b", "bb", "c"), free((kind, one, other)))
        self.texts(("a", "b"), free(("is", "T", one, 3)))
        self.texts(("a", "b", "bb", "c"), free(("like", "B", other, "A", one)))
        self.texts(("A", "B"), rows_of(("like", "B", other, "A", one)))
        self.texts(("B",), rows_of(("like", "B", other, "B", one)))

    def test_a_name_that_is_free_in_one_piece_and_taken_in_another(self):
        taken = ("some", "x", ("=", X, Y))
        apart = ("all", "y", ("<", X, Y))
        self.texts(("x", "y"), free(("and", taken, ("=", X, ONE))))
        self.texts(("x", "y"), free(("or", ("=", X, ONE), taken)))
        self.texts(("x", "y"), free(("and", taken, apart)))
        self.texts(("y",), free(("all", "x", ("or", taken, apart))))
        self.texts((), free(("some", "y", ("all", "x", ("or", taken, apart)))))
        self.texts(("y",), free(("some", "x", taken)))
        self.texts((), free(("some", "x", ("some", "x", ("=", X, ONE)))))
        # A number has no name, and a name within a longer one is another.
        self.texts(("xx",), free(("some", "x", ("=", ((1, "xx"),), ONE))))
        self.texts((), free(("=", ONE, ONE)))
        self.texts((), free(("all", "x", ("=", ONE, ONE))))

    def test_arguments_by_name(self):
        for function, expected in ((free, ("x", "y")), (rows_of, ()), (depth, 0), (shown, "x = y")):
            self.assertEqual(expected, function(statement=SAME))

    def test_a_depth_of_0_and_of_20_and_more(self):
        for deep in (0, 1, 19, 20, 21, 40):
            statement = nested(deep)
            self.whole(deep, depth(statement))
            self.assertEqual("not " * deep + "x = y", shown(statement))
            self.texts(("x", "y"), free(statement))
            self.whole(1 + deep, depth(("and", SAME, statement)))
            self.whole(1 + deep, depth(("or", statement, SAME)))
            self.whole(1 + deep, depth(("some", "x", statement)))
            self.texts(("T",), rows_of(nested(deep, ("is", "T", X, 1))))

    def test_a_text_of_1000_signs(self):
        full = ((20, "abcdef"),) * 8
        leaf = " + ".join(["20*abcdef"] * 8) + " = " + " + ".join(["20*abcdef"] * 8)
        statement = ("=", full, full)
        text = leaf
        for turn in range(4):
            statement = ("and", statement, ("=", full, full))
            text = "(" + text + " and " + leaf + ")"
        statement = ("some", "abcdef", ("not", ("some", "xyz", statement)))
        text = "some abcdef: not some xyz: " + text
        self.assertEqual(1000, len(text))
        self.assertEqual(text, shown(statement))
        self.assertEqual(statement, text_told(text))
        self.texts((), free(statement))
        self.texts(("abcdef",), free(statement[2]))
        self.texts((), rows_of(statement))
        self.whole(7, depth(statement))


if __name__ == "__main__":
    unittest.main()
