"""Point 4: makers one behind the other, in drawn orders, and their papers laid end to end."""

import unittest

from making import MadeCase, drawn, full_middle
from promises import second_slight, unbare, unfolded, unshared

from samepaper.bare import bare
from samepaper.folding import folded
from samepaper.joining import joined, own_paper
from samepaper.once import once
from samepaper.sharing import shared

MAKERS = (once, folded, bare, shared)


class MakersTest(MadeCase):
    def next_made(self, maker, middle):
        """A maker's outcome and paper, asked for all that is promised of them."""
        outcome, paper = self.made(maker, middle, come_to=maker is not shared)
        self.assertTrue(maker is not folded or unfolded(outcome) is None)
        self.assertTrue(maker is not bare or unbare(outcome) is None)
        for function, told in zip(middle, outcome):
            self.assertTrue(maker is not shared or not second_slight(function) or unshared(told) is None)
        return outcome, paper

    def through(self, first, makers, values, bounds=(0, 1, 3, 9)):
        """Goes through makers; tells how many papers were joined from the first one on."""
        outcome, paper = self.next_made(once, first)
        many = 0
        for maker in makers:
            outcome, later = self.next_made(maker, outcome)
            self.assert_alike(first, outcome, values, bounds)
            paper = None if paper is None else joined(first, paper, later)
            if paper is not None:
                self.assert_let_by(first, outcome, paper)
                many += 1
        return many

    def test_drawn_orders(self):
        asked, many = 0, 0
        for seed in range(120):
            maker, middle = drawn(seed)
            makers = [maker.chance.choice(MAKERS) for k in range(4)]
            many += self.through(middle, makers, lambda number: maker.values(middle, number))
            asked += len(makers)
        # Not all have to be joined, but of what makers tell here most can be.
        self.assertGreater(many, asked // 2)

    def test_all_of_them_twice(self):
        for seed in range(40):
            maker, middle = drawn(seed, again=0.5)
            self.through(middle, (folded, shared, bare) * 2, lambda number: maker.values(middle, number))

    def test_what_is_made_already_stays_so(self):
        """An outcome made once more has as many blocks, rows and params."""
        for seed in range(60):
            maker, middle = drawn(seed)
            for make in MAKERS:
                told = once(middle)[0]
                if make is not once:
                    told = make(told)[0]
                again = make(told)[0]
                self.assertEqual([[(len(params), len(rows)) for params, rows, end in function[2]] for function in again],
                                 [[(len(params), len(rows)) for params, rows, end in function[2]] for function in told])

    def test_own_papers_in_between(self):
        for seed in range(40):
            maker, middle = drawn(seed)
            outcome, paper = once(middle)
            told = joined(middle, own_paper(middle), paper)
            self.assertIsNotNone(told)
            self.assert_let_by(middle, outcome, told)

    def test_told_counts(self):
        values = tuple(range(58)) + ((1, 2), (3,))
        self.through(full_middle(), (folded, shared, bare), lambda number: values, bounds=(0, 7))


if __name__ == "__main__":
    unittest.main()
