"""Sets of truths in formulas, as the search uses them, against all truths one by one."""

import itertools
import random
import unittest

from tests.cases import joined_truth, random_test
from tworows.basics import basics, formula
from tworows.masks import (
    ALL, BITS, FALSE, KNOWN, NOT_FALSE, NOT_TRUE, OPPOSITE, TRUE, UNKNOWN, and_mask, and_side, flattened, mask_of,
    narrowed, or_mask, or_side, sure_mask, sure_side, truth_bit, truths_in, weighed,
)

MASKS = range(1, 8)


def image(word, *masks):
    """The mask of what a word gives for some truths of its parts."""
    return mask_of({joined_truth(word, truths) for truths in itertools.product(*[truths_in(mask) for mask in masks])})


class MasksTest(unittest.TestCase):
    def test_masks_and_truths(self):
        self.assertEqual([truth_bit(truth) for truth in (True, False, None)], [1, 2, 4])
        for mask in range(8):
            self.assertEqual(mask_of(truths_in(mask)), mask)
        self.assertEqual(truths_in(ALL), (True, False, None))
        self.assertEqual((TRUE, FALSE, UNKNOWN), BITS)
        self.assertEqual([truths_in(mask) for mask in (KNOWN, NOT_FALSE, NOT_TRUE)], [(True, False), (True, None), (False, None)])

    def test_each_word(self):
        for one, other in itertools.product(MASKS, MASKS):
            self.assertEqual(and_mask(one, other), image("and", one, other))
            self.assertEqual(or_mask(one, other), image("or", one, other))
        for one in MASKS:
            self.assertEqual(OPPOSITE[one], image("not", one))
            self.assertEqual(sure_mask(one), image("sure", one))

    def test_the_sides_of_each_word(self):
        for other, need in itertools.product(MASKS, range(8)):
            for word, side in (("and", and_side), ("or", or_side)):
                self.assertEqual(side(other, need), sum(bit for bit in BITS if image(word, bit, other) & need))
        for need in range(8):
            self.assertEqual(sure_side(need), sum(bit for bit in BITS if image("sure", bit) & need))

    def test_each_occurrence_for_itself(self):
        chance = random.Random(5)
        for _ in range(300):
            test = random_test(chance, ["n", "m"], ["t"], 4)
            nodes = flattened(formula(test), {atom: at for at, atom in enumerate(basics(test))}, 0)
            # Each occurrence gets a place of its own, so that it can be changed alone.
            spots = [at for at, node in enumerate(nodes) if node[0] == "is"]
            apart = [("is", spots.index(at), -1) if at in spots else node for at, node in enumerate(nodes)]
            held = [chance.choice(MASKS) for _ in spots]
            masks, need = weighed(apart, held), chance.choice(range(8))
            found = narrowed(apart, masks, need)
            self.assertEqual(sorted(place for place, _ in found), list(range(len(spots))))
            for place, mask in found:
                for bit in BITS:
                    changed = held[:place] + [bit] + held[place + 1 :]
                    self.assertIs(bool(weighed(apart, changed)[-1] & need), bool(mask & bit))


if __name__ == "__main__":
    unittest.main()
