"""Point [35] as far as str(test) needs it: the text of a test."""

import unittest

from tworows.logic import against, always, among, begins, compare, empty, never, sure

A = compare("a", "<", 1)
B = compare("b", "<", 2)
C = compare("c", "<", 3)


class TextTest(unittest.TestCase):
    def told(self, pairs):
        for test, text in pairs:
            self.assertEqual(str(test), text)

    def test_compare(self):
        self.told([
            (compare("a", "<", 5), "a < 5"),
            (compare("a", "<=", 0), "a <= 0"),
            (compare("a", "==", -5), "a == -5"),
            (compare("a", "!=", 10 ** 30), "a != 1" + "0" * 30),
            (compare("a", ">", -(10 ** 30)), "a > -1" + "0" * 30),
            (compare("abcdefgh", ">=", "xyz"), 'abcdefgh >= "xyz"'),
            (compare("a", "==", "5"), 'a == "5"'),
            (compare("a", "==", ""), 'a == ""'),
            (compare("a", "==", 10 ** 999), "a == 1" + "0" * 999),
        ])

    def test_quotes_and_backslashes(self):
        self.told([
            (compare("a", "==", '"'), r'a == "\""'),
            (compare("a", "==", "\\"), 'a == "\\\\"'),
            (compare("a", "==", '\\"'), r'a == "\\\""'),
            (compare("a", "==", 'say "x" \\ y'), r'a == "say \"x\" \\ y"'),
            (compare("a", "==", "it's {b} #1 ~"), 'a == "it\'s {b} #1 ~"'),
            (begins("a", '"\\'), r'a begins "\"\\"'),
            (among("a", ['"', "\\", "'"]), r'''a in ("\"", "\\", "'")'''),
            (compare("a", "==", "\\n"), 'a == "\\\\n"'),
        ])

    def test_against(self):
        self.told([
            (against("a", "<", "b"), "a < b"),
            (against("b", ">=", "a", more=0), "b >= a"),
            (against("a", "<", "b", more=1), "a < b + 1"),
            (against("a", "!=", "b", more=-1), "a != b - 1"),
            (against("a", "==", "b", more=10 ** 30), "a == b + 1" + "0" * 30),
            (against("a", "<=", "b", more=-(10 ** 30)), "a <= b - 1" + "0" * 30),
        ])

    def test_among_begins_empty_always_and_never(self):
        self.told([
            (among("a", [1]), "a in (1)"),
            (among("a", [2, -1, 2]), "a in (2, -1, 2)"),
            (among("a", ("x", "", "y z")), 'a in ("x", "", "y z")'),
            (among("a", [1, "1"]), 'a in (1, "1")'),
            (begins("a", ""), 'a begins ""'),
            (begins("a", "x y"), 'a begins "x y"'),
            (empty("a"), "a is empty"),
            (always(), "always"),
            (never(), "never"),
        ])

    def test_parts_without_brackets(self):
        self.told([
            (A & B, "a < 1 and b < 2"),
            (A | B, "a < 1 or b < 2"),
            (~A, "not a < 1"),
            (sure(A), "sure a < 1"),
            (~always(), "not always"),
            (~empty("a"), "not a is empty"),
            (~~A, "not not a < 1"),
            (sure(sure(A)), "sure sure a < 1"),
            (~sure(A), "not sure a < 1"),
            (sure(~A), "sure not a < 1"),
        ])

    def test_the_parts_of_not_and_sure(self):
        self.told([
            (~(A & B), "not (a < 1 and b < 2)"),
            (~(A | B), "not (a < 1 or b < 2)"),
            (sure(A & B), "sure (a < 1 and b < 2)"),
            (sure(A | B), "sure (a < 1 or b < 2)"),
            (~~(A | B), "not not (a < 1 or b < 2)"),
            (sure(~(A & B)), "sure not (a < 1 and b < 2)"),
        ])

    def test_the_first_part_of_and(self):
        self.told([
            ((A | B) & C, "(a < 1 or b < 2) and c < 3"),
            ((A & B) & C, "a < 1 and b < 2 and c < 3"),
            (~A & C, "not a < 1 and c < 3"),
            (sure(A) & C, "sure a < 1 and c < 3"),
            (~(A & B) & C, "not (a < 1 and b < 2) and c < 3"),
        ])

    def test_the_second_part_of_and(self):
        self.told([
            (A & (B | C), "a < 1 and (b < 2 or c < 3)"),
            (A & (B & C), "a < 1 and (b < 2 and c < 3)"),
            (A & ~B, "a < 1 and not b < 2"),
            (A & sure(B), "a < 1 and sure b < 2"),
            (A & ~(B | C), "a < 1 and not (b < 2 or c < 3)"),
        ])

    def test_the_first_part_of_or(self):
        self.told([
            ((A | B) | C, "a < 1 or b < 2 or c < 3"),
            ((A & B) | C, "a < 1 and b < 2 or c < 3"),
            (~A | C, "not a < 1 or c < 3"),
            (sure(A) | C, "sure a < 1 or c < 3"),
        ])

    def test_the_second_part_of_or(self):
        self.told([
            (A | (B | C), "a < 1 or (b < 2 or c < 3)"),
            (A | (B & C), "a < 1 or b < 2 and c < 3"),
            (A | ~B, "a < 1 or not b < 2"),
            (A | sure(B), "a < 1 or sure b < 2"),
        ])

    def test_deeper_tests(self):
        self.told([
            ((A | B) & (B | C), "(a < 1 or b < 2) and (b < 2 or c < 3)"),
            ((A & B) | (B & C), "a < 1 and b < 2 or b < 2 and c < 3"),
            ((A & (B & C)) & (A | ~(B & C)), "a < 1 and (b < 2 and c < 3) and (a < 1 or not (b < 2 and c < 3))"),
            (A | (B | (C | A)), "a < 1 or (b < 2 or (c < 3 or a < 1))"),
            (((A | B) & C) | A, "(a < 1 or b < 2) and c < 3 or a < 1"),
            (~((A | B) & C), "not ((a < 1 or b < 2) and c < 3)"),
        ])

    def test_the_deepest_test(self):
        test = A
        for _ in range(12):
            test = ~test
        self.assertEqual(str(test), "not " * 12 + "a < 1")


if __name__ == "__main__":
    unittest.main()
