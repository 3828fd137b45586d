"""Point 4: makers one behind the other, in drawn orders, their papers laid end to end, and what they tell bent."""

import unittest

from looping import LoopMaker
from making import MadeCase, drawn, few_names, full_middle
from papering import Bender, Enricher, bent_middle
from promises import calls_left, second_boxed, second_once, second_slight, second_small, slight_together, unbare, unfolded
from promises import unmoved, unshared
from second_checker import second_checked

from samepaper.bare import bare
from samepaper.boxing import boxed
from samepaper.checking import checked
from samepaper.errors import NoPaper
from samepaper.folding import folded
from samepaper.in_place import in_place
from samepaper.joining import joined, own_paper
from samepaper.moving import moved_out
from samepaper.once import once
from samepaper.papers import shape_asked
from samepaper.sharing import shared

MAKERS = (once, folded, bare, shared, moved_out)


class MakersCase(MadeCase):
    def next_made(self, maker, middle):
        """A maker's outcome and paper, asked for all that is promised of them."""
        told = self.made(maker, middle, come_to=maker in (once, folded, bare), once=maker is not in_place or second_once(middle))
        outcome, paper = told
        self.assertTrue(maker is not folded or unfolded(outcome) is None)
        self.assertTrue(maker is not bare or unbare(outcome) is None)
        for number, (function, told) in enumerate(zip(middle, outcome)):
            if maker is shared and second_slight(function):
                self.assertIsNone(unshared(told))
            if maker is moved_out and second_slight(function):
                self.assertIsInstance(unmoved(function, told), int)
            if maker is in_place and slight_together(middle, number):
                self.assertEqual(calls_left(middle, outcome, number), [])
        return outcome, paper

    def next_boxed(self, middle, counts):
        outcome, paper = self.made(lambda handed: boxed(handed, *counts), middle, come_to=False, once=False, small=False)
        self.assertTrue(second_boxed(outcome, *counts))
        return outcome, paper

    def through(self, first, makers, values, bounds=(0, 1, 3, 9), counts=None):
        """Goes through makers, at last to boxes where counts are told; tells how many papers were joined."""
        outcome, paper = first, own_paper(first)
        many = 0
        for maker in (*makers, None):
            if maker is None and counts is None:
                break
            outcome, later = self.next_boxed(outcome, counts) if maker is None else self.next_made(maker, outcome)
            self.assert_alike(first, outcome, values, bounds)
            paper = None if paper is None else joined(first, paper, later)
            if paper is not None:
                self.assert_let_by(first, outcome, paper)
                many += 1
        return many


class MakersTest(MakersCase):
    def test_drawn_orders(self):
        asked, many = 0, 0
        for seed in range(120):
            maker, middle = drawn(seed)
            makers = [once, *[maker.chance.choice(MAKERS) for k in range(4)]]
            counts = (maker.chance.randint(3, 8), maker.chance.randint(1, 4))
            many += self.through(middle, makers, lambda number: maker.values(middle, number), counts=counts)
            asked += len(makers) + 1
        # Not all have to be joined, but of what makers tell here most can be.
        self.assertGreater(many, asked * 2 // 3)

    def test_in_place_among_them(self):
        """Behind other makers a paper whose places have several frames is not joined, and nothing later is."""
        asked, many = 0, 0
        for seed in range(80):
            maker, middle = drawn(seed)
            makers = [once, *[maker.chance.choice((in_place, *MAKERS)) for k in range(4)]]
            self.through(middle, makers, lambda number: maker.values(middle, number), counts=(3, 1))
            if in_place(middle)[0] != middle:
                asked += 1
                told = joined(middle, in_place(middle)[1], once(in_place(middle)[0])[1])
                self.assertIsNotNone(told)
                self.assert_let_by(middle, once(in_place(middle)[0])[0], told)
        self.assertGreater(asked, 20)

    def test_the_order_of_the_chain(self):
        for seed in range(60):
            maker, middle = drawn(seed, again=0.5)
            order = (in_place, once, folded, shared, moved_out, bare)
            first, paper = self.next_made(in_place, middle)
            for make in order[1:]:
                outcome, later = self.next_made(make, first)
                paper = None if paper is None else joined(middle, paper, later)
                if paper is not None:
                    self.assert_let_by(middle, outcome, paper)
                self.assert_alike(middle, outcome, lambda number: maker.values(middle, number))
                first = outcome

    def test_loops(self):
        for seed in range(40):
            maker = LoopMaker(seed, deep=2, rows=3 + seed % 4)
            middle = maker.middle()
            if second_small(middle):
                makers = [maker.chance.choice((in_place, *MAKERS)) for k in range(4)]
                self.through(middle, makers, lambda number: maker.values()[:3 if number == 0 else 1], counts=(3, 1))

    def test_all_of_them_twice(self):
        for seed in range(40):
            maker, middle = drawn(seed, again=0.5)
            self.through(middle, (once, *(folded, shared, moved_out, bare) * 2), lambda number: maker.values(middle, number))

    def test_what_is_made_already_stays_so(self):
        """An outcome made once more has as many blocks, rows and params."""
        for seed in range(60):
            maker, middle = drawn(seed)
            for make in MAKERS:
                told = once(middle)[0]
                if make is not once:
                    told = make(told)[0]
                again = make(told)[0]
                self.assertEqual([[(len(params), len(rows)) for params, rows, end in function[2]] for function in again],
                                 [[(len(params), len(rows)) for params, rows, end in function[2]] for function in told])

    def test_own_papers_in_between(self):
        for seed in range(40):
            maker, middle = drawn(seed)
            outcome, paper = once(middle)
            told = joined(middle, own_paper(middle), paper)
            self.assertIsNotNone(told)
            self.assert_let_by(middle, outcome, told)

    def test_told_counts(self):
        values = tuple(range(58)) + ((1, 2), (3,))
        self.through(full_middle(), (once, folded, shared, moved_out, bare), lambda number: values, bounds=(0, 7))


class BentTest(MakersCase):
    """Whatever is let by runs alike: outcomes and papers of makers, bent at drawn places."""

    def pairs(self):
        """Handed middles, outcomes and papers, of each maker."""
        for seed in range(60):
            maker, middle = drawn(seed, blocks=3 + seed % 6, rows=5)
            yield maker, middle, *in_place(middle)
            handed = once(in_place(middle)[0])[0]
            yield maker, handed, *moved_out(handed)
            yield maker, handed, *boxed(handed, 3 + seed % 6, 1 + seed % 4)
        for seed in range(60):
            maker = LoopMaker(seed, deep=1 + seed % 2, rows=3)
            maker.values_of = maker.values
            maker.values = lambda middle, number, maker=maker: maker.values_of()[:len(middle[number][2][0][0])]
            handed = maker.middle()
            if second_small(handed):
                yield maker, handed, *moved_out(handed)
                yield maker, handed, *boxed(handed, 3, 1)

    def ask(self, maker, one, other, paper):
        """How a paper breaks, asked twice; where it does not, both run alike."""
        try:
            shape_asked(one, other, paper)
            self.assertIs(checked(one, other, paper), True)
            broken = None
        except NoPaper as error:
            broken = (error.function, error.block, error.row, error.word)
            if error.word in ("face", "shape"):
                return error.word
        self.assertEqual(second_checked(one, other, paper), broken)
        if broken is None:
            self.assert_alike(one, other, lambda number: maker.values(one, number))
        return None if broken is None else broken[3]

    def test_bent_papers(self):
        words = {}
        for maker, one, other, paper in self.pairs():
            for times in (0, 1, 1, 2):
                bent = Bender(maker.chance, one, other).bent(paper, times)
                for k in range(times):
                    bent = Enricher(maker.chance, one).enriched(bent)
                word = self.ask(maker, one, other, bent)
                self.assertTrue(times or word is None)
                words[word] = words.get(word, 0) + 1
        for word in (None, "place", "name", "stand", "hold", "know"):
            self.assertGreater(words.get(word, 0), 5, words)

    def test_bent_outcomes(self):
        words = {}
        for maker, one, other, paper in self.pairs():
            for k in range(4 if few_names(other) else 0):
                word = self.ask(maker, one, bent_middle(other, maker.chance), paper)
                words[word] = words.get(word, 0) + 1
        for word in (None, "place", "open", "event", "give", "name", "hold"):
            self.assertGreater(words.get(word, 0), 5, words)


if __name__ == "__main__":
    unittest.main()
