"""Point [35]: the text of a test, by test_text and by str."""

import random
import unittest

from tests.cases import random_test
from tworows.logic import against, always, among, begins, compare, empty, never, sure
from tworows.texts import test_text as text_of

A = compare("a", "<", 1)
B = compare("b", "<", 2)
C = compare("c", "<", 3)


class TextTest(unittest.TestCase):
    def told(self, pairs):
        for test, text in pairs:
            self.assertEqual(str(test), text)
            self.assertEqual(text_of(test), text)
            self.assertIs(type(text_of(test)), str)

    def test_compare(self):
        self.told([
            (compare("a", "<", 5), "a < 5"),
            (compare("a", "<=", 0), "a <= 0"),
            (compare("a", "==", -5), "a == -5"),
            (compare("a", "!=", 10 ** 30), "a != 1" + "0" * 30),
            (compare("a", ">", -(10 ** 30)), "a > -1" + "0" * 30),
            (compare("abcdefgh", ">=", "xyz"), 'abcdefgh >= "xyz"'),
            (compare("a", "==", "5"), 'a == "5"'),
            (compare("a", "==", ""), 'a == ""'),
            (compare("a", "==", 10 ** 999), "a == 1" + "0" * 999),
        ])

    def test_quotes_and_backslashes(self):
        self.told([
            (compare("a", "==", '"'), r'a == "\""'),
            (compare("a", "==", "\\"), 'a == "\\\\"'),
            (compare("a", "==", '\\"'), r'a == "\\\""'),
            (compare("a", "==", 'say "x" \\ y'), r'a == "say \"x\" \\ y"'),
            (compare("a", "==", "it's {b} #1 ~"), 'a == "it\'s {b} #1 ~"'),
            (begins("a", '"\\'), r'a begins "\"\\"'),
            (among("a", ['"', "\\", "'"]), r'''a in ("\"", "\\", "'")'''),
            (compare("a", "==", "\\n"), 'a == "\\\\n"'),
        ])

    def test_against(self):
        self.told([
            (against("a", "<", "b"), "a < b"),
            (against("b", ">=", "a", more=0), "b >= a"),
            (against("a", "<", "b", more=1), "a < b + 1"),
            (against("a", "!=", "b", more=-1), "a != b - 1"),
            (against("a", "==", "b", more=10 ** 30), "a == b + 1" + "0" * 30),
            (against("a", "<=", "b", more=-(10 ** 30)), "a <= b - 1" + "0" * 30),
        ])

    def test_among_begins_empty_always_and_never(self):
        self.told([
            (among("a", [1]), "a in (1)"),
            (among("a", [2, -1, 2]), "a in (2, -1, 2)"),
            (among("a", ("x", "", "y z")), 'a in ("x", "", "y z")'),
            (among("a", [1, "1"]), 'a in (1, "1")'),
            (begins("a", ""), 'a begins ""'),
            (begins("a", "x y"), 'a begins "x y"'),
            (empty("a"), "a is empty"),
            (always(), "always"),
            (never(), "never"),
        ])

    def test_parts_without_brackets(self):
        self.told([
            (A & B, "a < 1 and b < 2"),
            (A | B, "a < 1 or b < 2"),
            (~A, "not a < 1"),
            (sure(A), "sure a < 1"),
            (~always(), "not always"),
            (~empty("a"), "not a is empty"),
            (~~A, "not not a < 1"),
            (sure(sure(A)), "sure sure a < 1"),
            (~sure(A), "not sure a < 1"),
            (sure(~A), "sure not a < 1"),
        ])

    def test_the_parts_of_not_and_sure(self):
        self.told([
            (~(A & B), "not (a < 1 and b < 2)"),
            (~(A | B), "not (a < 1 or b < 2)"),
            (sure(A & B), "sure (a < 1 and b < 2)"),
            (sure(A | B), "sure (a < 1 or b < 2)"),
            (~~(A | B), "not not (a < 1 or b < 2)"),
            (sure(~(A & B)), "sure not (a < 1 and b < 2)"),
        ])

    def test_the_first_part_of_and(self):
        self.told([
            ((A | B) & C, "(a < 1 or b < 2) and c < 3"),
            ((A & B) & C, "a < 1 and b < 2 and c < 3"),
            (~A & C, "not a < 1 and c < 3"),
            (sure(A) & C, "sure a < 1 and c < 3"),
            (~(A & B) & C, "not (a < 1 and b < 2) and c < 3"),
        ])

    def test_the_second_part_of_and(self):
        self.told([
            (A & (B | C), "a < 1 and (b < 2 or c < 3)"),
            (A & (B & C), "a < 1 and (b < 2 and c < 3)"),
            (A & ~B, "a < 1 and not b < 2"),
            (A & sure(B), "a < 1 and sure b < 2"),
            (A & ~(B | C), "a < 1 and not (b < 2 or c < 3)"),
        ])

    def test_the_first_part_of_or(self):
        self.told([
            ((A | B) | C, "a < 1 or b < 2 or c < 3"),
            ((A & B) | C, "a < 1 and b < 2 or c < 3"),
            (~A | C, "not a < 1 or c < 3"),
            (sure(A) | C, "sure a < 1 or c < 3"),
        ])

    def test_the_second_part_of_or(self):
        self.told([
            (A | (B | C), "a < 1 or (b < 2 or c < 3)"),
            (A | (B & C), "a < 1 or b < 2 and c < 3"),
            (A | ~B, "a < 1 or not b < 2"),
            (A | sure(B), "a < 1 or sure b < 2"),
        ])

    def test_deeper_tests(self):
        self.told([
            ((A | B) & (B | C), "(a < 1 or b < 2) and (b < 2 or c < 3)"),
            ((A & B) | (B & C), "a < 1 and b < 2 or b < 2 and c < 3"),
            ((A & (B & C)) & (A | ~(B & C)), "a < 1 and (b < 2 and c < 3) and (a < 1 or not (b < 2 and c < 3))"),
            (A | (B | (C | A)), "a < 1 or (b < 2 or (c < 3 or a < 1))"),
            (((A | B) & C) | A, "(a < 1 or b < 2) and c < 3 or a < 1"),
            (~((A | B) & C), "not ((a < 1 or b < 2) and c < 3)"),
        ])

    def test_the_deepest_test(self):
        test = A
        for _ in range(12):
            test = ~test
        self.assertEqual(str(test), "not " * 12 + "a < 1")
        self.assertEqual(text_of(test), "not " * 12 + "a < 1")

    def test_numbers_of_many_digits(self):
        for digits in (1, 31, 1000):
            for number in (10 ** (digits - 1), 10 ** digits - 1, -(10 ** digits - 1)):
                self.told([(compare("a", "<", number), f"a < {number}"), (among("a", [number, 0]), f"a in ({number}, 0)")])
                sign = "-" if number < 0 else "+"
                self.told([(against("a", "<", "b", more=number), f"a < b {sign} {abs(number)}")])

    def test_eight_values(self):
        self.told([(among("a", range_list), "a in (1, 2, 3, 4, 5, 6, 7, 8)") for range_list in (list(range(1, 9)), tuple(range(1, 9)))])

    def test_different_forms_have_different_texts(self):
        chance = random.Random(35)
        found = {}
        for _ in range(4000):
            test = random_test(chance, ["a", "b"], ["c"], chance.randint(0, 3))
            self.assertEqual(found.setdefault(text_of(test), test), test)
        small = [A, B, ~A, sure(A), A & B, A | B]
        made = [one & other for one in small for other in small] + [one | other for one in small for other in small]
        made += [~one for one in made] + [sure(one) for one in made]
        made += [one & A for one in made] + [A & one for one in made] + [one | A for one in made] + [A | one for one in made]
        texts = {}
        for test in made:
            self.assertEqual(texts.setdefault(text_of(test), test), test)
        self.assertGreater(len(texts), 700)


if __name__ == "__main__":
    unittest.main()
