import itertools
import re
import unittest

from asking import Asking, no_wholes
from figuretell.errors import NoText
from figuretell.reader import read
from figuretell.statements import depth, shown
from samples import numbers_below
from sayings import SAME, TOLD, made_statements, nested, text_told

NAME = r"(?!(?:and|or|not|some|all)\b)[a-z]{1,6}\b"
PART = rf"(?:(?:[2-9]|1[0-9]|20)\*{NAME}|{NAME}|(?:0|[1-9][0-9]{{0,5}})\b(?!\*))"
SUM = rf"{PART}(?: \+ {PART}){{0,7}}"
PLACE = rf"\b[A-Z]{{1,6}}\[{SUM}\]"
PLAIN = re.compile(rf"{PLACE} = {PLACE}|{PLACE} = (?:0|[1-9][0-9]{{0,5}})\b|{SUM} (?:=|<=|<) {SUM}")
MADE = re.compile(rf"not @(\d+)!|\(@(\d+)! (?:and|or) @(\d+)!\)|(?:some|all) {NAME}: @(\d+)!")


def is_text(text):
    """Whether the text is a statement's: what is in others is replaced by its depth first, from the inmost on."""
    if len(text) > 1000 or "@" in text or "!" in text:
        return False
    left = PLAIN.sub("@0!", text)
    while MADE.search(left):
        left = MADE.sub(lambda found: "@%d!" % (1 + max(int(deep) for deep in found.groups() if deep)), left, 1)
    return bool(re.fullmatch(r"@(\d|1\d|20)!", left))


def kinds_in(thing):
    if isinstance(thing, tuple):
        return {tuple}.union(*[kinds_in(part) for part in thing])
    return {type(thing)}


def changed_at_a_place(below, text):
    """The text with something put in, left out or changed for something else, at one or two places."""
    signs = ("", " ", "  ", "\n", "(", ")", "[", "]", "*", "+", " + ", "=", "<", "<=", ":", "x", "T", "0", "1", "7",
             "21*", "1000000", "not ", "and", " and ", " or ", "some y: ", "all ", "-", "~", "1*", "X[x]", "abcdefg")
    for turn in range(1 + below(2)):
        at = below(len(text) + 1)
        text = text[:at] + signs[below(len(signs))] + text[at + below(3):]
    return text


class ReaderTest(Asking, unittest.TestCase):
    def no_texts(self, *texts):
        for text in texts:
            self.refused(NoText, read, text)
            self.refused(NoText, read, "not " + text)
            self.refused(NoText, read, "(" + text + " and x = y)")
            self.refused(NoText, read, "(x = y or " + text + ")")
            self.refused(NoText, read, "some x: " + text)

    def test_each_kind(self):
        for statement, text, names, rows, deep in TOLD:
            answer = read(text)
            self.assertEqual(statement, answer)
            self.assertEqual({tuple, int, str}, kinds_in(answer))
            self.assertEqual(text, shown(answer))

    def test_all_joined_of_two(self):
        for (one, other), kind in itertools.product(itertools.product(TOLD, repeat=2), ("and", "or")):
            self.assertEqual((kind, one[0], other[0]), read("(" + one[1] + " " + kind + " " + other[1] + ")"))

    def test_all_made_of_one(self):
        for statement, text, names, rows, deep in TOLD:
            self.assertEqual(("not", statement), read("not " + text))
            for kind, name in itertools.product(("some", "all"), ("x", "abcdef", "sort", "an")):
                self.assertEqual((kind, name, statement), read(kind + " " + name + ": " + text))

    def test_made_statements_are_read_from_their_texts(self):
        for statement in made_statements():
            text = shown(statement)
            if len(text) <= 1000:
                self.assertEqual(statement, read(text))
                self.assertEqual(text_told(text), read(text))
                self.assertTrue(is_text(text))
            else:
                self.refused(NoText, read, text)

    def test_texts_changed_at_some_place(self):
        below = numbers_below(30)
        read_well = refused = 0
        short = [text for statement, text, *more in TOLD] + [shown(s) for s in made_statements() if depth(s) < 3]
        for text, turn in itertools.product(short, range(150)):
            text = changed_at_a_place(below, text)
            if is_text(text):
                self.assertEqual(text, shown(read(text)))
                read_well += 1
            else:
                self.refused(NoText, read, text)
                refused += 1
        self.assertGreater(read_well, 500)
        self.assertGreater(refused, 3000)

    def test_all_short_texts_of_few_signs(self):
        read_well = 0
        for long in range(8):
            for letters in itertools.product("x1 =", repeat=long):
                text = "".join(letters)
                if is_text(text):
                    self.assertEqual(text, shown(read(text)))
                    read_well += 1
                else:
                    self.refused(NoText, read, text)
        # Each sum is x, xx, xxx or 1, 11, 111, and together with " = " they have at most seven signs.
        self.assertEqual(4 * (1 + 2 + 3), read_well)

    def test_names(self):
        for name in ("a", "z", "abcdef", "zzzzzz", "so", "som", "somes", "alls", "ands", "ora", "nots", "no", "is",
                     "like", "sand", "for", "knot", "awsome", "ball", "an", "al"):
            self.assertEqual(("=", ((1, name),), ((20, name), (7, ""))), read(name + " = 20*" + name + " + 7"))
            self.assertEqual(("some", name, SAME), read("some " + name + ": x = y"))
            self.assertEqual(("all", name, SAME), read("all " + name + ": x = y"))
        for name in ("", "abcdefg", "and", "or", "not", "some", "all", "A", "aB", "Ab", "x1", "1x", "x_", "x y", "x-",
                     " x", "x ", "(x)", "x,", "x:", "abcdefghijklm", "\n", "x\n"):
            self.no_texts(name + " = x", "x < " + name, "2*" + name + " = x", "y + " + name + " <= x",
                          "T[" + name + "] = 1", "some " + name + ": x = y", "all " + name + ": x = y")

    def test_rows_names(self):
        for name in ("A", "Z", "ABCDEF", "ZZZZZZ", "AND", "OR", "NOT", "SOME", "ALL"):
            self.assertEqual(("is", name, ((1, "x"),), 3), read(name + "[x] = 3"))
            self.assertEqual(("like", name, ((1, "x"),), "T", ((1, ""),)), read(name + "[x] = T[1]"))
            self.assertEqual(("like", "T", ((1, "x"),), name, ((1, ""),)), read("T[x] = " + name + "[1]"))
        for name in ("", "ABCDEFG", "a", "aB", "Ab", "T1", "1", "T_", "T ", " T", "T T", "(T)", "ABCDEFGHIJKL"):
            self.no_texts(name + "[x] = 3", name + "[x] = T[1]", "T[x] = " + name + "[1]")

    def test_numbers(self):
        for number in (0, 1, 2, 9, 10, 19, 20, 21, 100, 99999, 100000, 999999):
            text = str(number)
            self.assertEqual(("=", ((number, ""),), ((number, ""),)), read(text + " = " + text))
            self.assertEqual(("is", "T", ((number, ""), (1, "x")), number), read("T[" + text + " + x] = " + text))
        for text in ("1000000", "9999999", "10000000", "00", "01", "007", "0999999", "000000", "-1", "+1", "1_0", "1.0",
                     "1e3", "1 0", "", "0x1", "9" * 900):
            self.no_texts(text + " = x", "x <= " + text, "x < 1 + " + text, text + " + x = x", "T[x] = " + text,
                          "T[" + text + "] = 1")
        self.no_texts("\u0661 = x", "x = \u00b2", "T[x] = \u0663", "\u00e9 = x", "T[\u00e9] = 1", "\u00c4[x] = 1")

    def test_factors(self):
        for factor in range(2, 21):
            self.assertEqual(("<", ((factor, "x"),), ((factor, ""), (1, "y"), (factor, "y"))),
                             read(f"{factor}*x < {factor} + y + {factor}*y"))
        for factor in ("0", "1", "21", "22", "99", "100", "200", "999999", "1000000", "02", "020", "-2", "", "x",
                       "2*2"):
            self.no_texts(factor + "*x = y", "y <= " + factor + "*x", "y < y + " + factor + "*x",
                          "T[" + factor + "*x] = 1", "T[x] = T[" + factor + "*x]")
        self.no_texts("2*3 = x", "2* x = y", "2 *x = y", "2x = y", "x*2 = y", "2**x = y", "2* = y", "T[x] = 2*3",
                      "T[x] = 2*x", "T[x] = x", "x = T[x]", "2*T[x] = 1", "T[x] + 1 = 2", "T[x] = 1 + 1")

    def test_sums_of_one_to_eight_parts(self):
        parts = ("x", "20*y", "7", "z", "0", "2*x", "x", "999999", "b", "c")
        for many in range(1, 11):
            text = " + ".join(parts[:many])
            for whole in (text + " = x", "x <= " + text, text + " < " + text, "T[" + text + "] = 1",
                          "T[1] = T[" + text + "]"):
                if many <= 8:
                    self.assertEqual(text_told(whole), read(whole))
                    self.assertEqual(whole, shown(read(whole)))
                else:
                    self.no_texts(whole)

    def test_blanks_too_many_or_too_few(self):
        for text in ("x = 3*y + 1", "T[x] = 1", "T[x + 1] = S[y]", "not x <= y", "(x < y and T[x] = 1)",
                     "(x = y or x < y)", "some y: x = y", "all y: not x = y"):
            self.assertEqual(text, shown(read(text)))
            for at in range(len(text) + 1):
                self.refused(NoText, read, text[:at] + "  " + text[at:])
                self.refused(NoText, read, text[:at] + "\n" + text[at:])
                if not is_text(text[:at] + " " + text[at:]):
                    self.refused(NoText, read, text[:at] + " " + text[at:])
                if text[at:at + 1] == " ":
                    if not text[:at].endswith("not"):
                        self.refused(NoText, read, text[:at] + text[at + 1:])
                    self.refused(NoText, read, text[:at] + "\n" + text[at + 1:])
        self.no_texts("x= y", "x =y", "x=y", "x < =y", "x< y", "x <y", "x <=y", "x<= y", "x +y = z", "x+ y = z",
                      "T [x] = 1", "T[ x] = 1", "T[x ] = 1", "T[x]= 1", "T[x] =1", "notx = y = z", "not  x = y",
                      "some y:x = y", "some y : x = y", "somey: x = y", "some  y: x = y", "( x = y and x = y)",
                      "(x = y and x = y )", "(x = y andx = y)", "(x = yand x = y)", "", " ", "\n")

    def test_parentheses_that_lack_or_are_too_many(self):
        self.no_texts("x = y and x = y", "x = y or x = y", "(x = y and x = y", "x = y and x = y)", "((x = y and x = y)",
                      "(x = y and x = y))", "((x = y and x = y))", "(x = y)", "(not x = y)", "(x) = y", "x = (y)",
                      "not (x = y)", "(x = y and x = y and x = y)", "(x = y and x = y or x = y)", "()", "(", ")",
                      "(x = y and )", "( and x = y)", "(x = y)and(x = y)", "(x = y not x = y)", "(x = y, x = y)",
                      "(some x: x = y)", "some x: (x = y)", "some (x): x = y", "[x = y and x = y]", "T(x) = 1",
                      "T[x = 1", "Tx] = 1", "T[[x]] = 1", "T[T[x]] = 1", "T[x]] = 1", "T[(x)] = 1", "T[] = 1")
        self.assertEqual(("and", SAME, ("or", SAME, SAME)), read("(x = y and (x = y or x = y))"))
        self.assertEqual(("or", ("and", SAME, SAME), SAME), read("((x = y and x = y) or x = y)"))

    def test_signs_behind_the_end(self):
        for statement, text, *more in TOLD:
            for behind in (" ", "\n", ")", "(", "]", ".", "!", ";", ":", " and", " and x = y", " = 1", " + ", " = y"):
                self.refused(NoText, read, text + behind)
            for ahead in (" ", "\n", ")", "(", "[", ".", "Not", "-", "+ ", "and ", ": "):
                self.refused(NoText, read, ahead + text)

    def test_begins_of_texts(self):
        for statement, text, *more in TOLD:
            for at in range(len(text)):
                if is_text(text[:at]):
                    self.assertEqual(text[:at], shown(read(text[:at])))
                else:
                    self.refused(NoText, read, text[:at])

    def test_other_ways_to_compare(self):
        for word in (" == ", " > ", " >= ", " => ", " =< ", " != ", " <> ", " << ", " - ", " * ", " is ", ": ", " ",
                     ""):
            self.no_texts("x" + word + "y", "1" + word + "x")
            self.no_texts("T[x]" + word + "1", "T[x]" + word + "S[x]")
        self.no_texts("T[x] <= 1", "T[x] < 1", "T[x] <= T[y]", "T[x] < T[y]", "T[x]", "T", "x", "1", "1 = T[x]",
                      "x - y = 1", "Some x: x = y", "SOME x: x = y", "NOT x = y", "no x = y", "every x: x = y",
                      "(x = y AND x = y)", "(x = y xor x = y)", "some x y: x = y", "some: x = y", "some x: ", "not ")

    def test_a_depth_of_20_and_21(self):
        for deep in (19, 20, 21, 22, 100):
            statement = nested(deep)
            text = "not " * deep + "x = y"
            joined = "(" * deep + "x = y" + " or x = y)" * deep
            other = "(x = y and " * deep + "x = y" + ")" * deep
            chosen = "all x: " * deep + "x = y"
            if deep > 20:
                for whole in (text, joined, other, chosen):
                    self.refused(NoText, read, whole)
            else:
                self.assertEqual(statement, read(text))
                for whole in (joined, other, chosen):
                    self.assertEqual(deep, depth(read(whole)))
                    self.assertEqual(whole, shown(read(whole)))
                self.assertEqual(("and", SAME, nested(19)), read("(x = y and " + "not " * 19 + "x = y)"))
        for text in ("(x = y and " + "not " * 20 + "x = y)", "(" + "not " * 20 + "x = y or x = y)",
                     "some y: " + "not " * 20 + "x = y", "not " * 10 + "all z: " * 11 + "x = y"):
            self.refused(NoText, read, text)

    def test_many_parentheses_and_nothing_else(self):
        for text in ("(" * 1000, ")" * 1000, "not " * 250, "some x: " * 125, "[" * 1000, "T[" * 500, "x + " * 250,
                     "9" * 1000, "x" * 1000, "X" * 1000, " " * 1000, "\n" * 1000):
            self.refused(NoText, read, text)

    def test_a_text_of_1000_and_of_1001_signs(self):
        leaf = " + ".join(["20*abcdef"] * 8) + " = " + " + ".join(["20*abcdef"] * 8)
        body = leaf
        for turn in range(4):
            body = "(" + body + " and " + leaf + ")"
        for name, long in (("x", 998), ("xy", 999), ("xyz", 1000), ("xyzz", 1001), ("abcdef", 1003)):
            text = "some abcdef: not some " + name + ": " + body
            self.assertEqual(long, len(text))
            if long <= 1000:
                self.assertEqual(text, shown(read(text)))
            else:
                self.refused(NoText, read, text)
        self.refused(NoText, read, body + body)
        self.refused(NoText, read, "x = y" + " " * 10000)
        self.refused(NoText, read, "1" * 5000 + " = x")

    def test_things_that_are_no_texts(self):
        others = [0, 7, b"x = y", bytearray(b"x = y"), ["x = y"], ("x = y",), {"x = y": 1}, SAME, read]
        for thing in [thing for thing in no_wholes() if not isinstance(thing, str)] + others:
            self.refused(NoText, read, thing)

    def test_arguments_by_name(self):
        self.assertEqual(SAME, read(text="x = y"))


if __name__ == "__main__":
    unittest.main()
