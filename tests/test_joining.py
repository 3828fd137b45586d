"""Point 34: a middle's own paper, and papers laid end to end."""

import copy
import unittest

from making import TICK, MadeCase, drawn, drawn_once, full_middle, one_function
from papering import Bender, Enricher, RightMaker, entered
from promises import second_small
from second_checker import second_checked

from samepaper.bare import bare
from samepaper.errors import NoPaper
from samepaper.folding import folded
from samepaper.joining import joined, own_paper
from samepaper.once import is_once, once, stands_at
from samepaper.papers import names_in, put_in, shape_asked
from samepaper.sharing import shared
from samepaper.terms import kind_of_term

X, Y, Z = (0, "n0"), (0, "n1"), (0, "n2")


def is_due(paper, later):
    """Whether point 34 tells that the papers laid end to end are a paper."""
    for number, matches in enumerate(later):
        for match in matches:
            if match is not None and len(match[0]) != 1:
                return False
        for match in matches:
            earlier = match and paper[number][match[0][0][1]]
            if earlier and not is_match_due(earlier, match):
                return False
    return True


def is_match_due(earlier, later):
    place, stands, holds, knows = earlier
    held = {(0, name): term for name, term in holds}
    told = [name for name, term in later[1]]
    terms = [term for name, term in later[1] + later[2]] + [term for term, truth in later[3]]
    if not {name for term in terms for name in names_in(term)} | set(told) <= set(held):
        return False
    by = [held[name] for name in told]
    if not all(isinstance(term, tuple) and isinstance(term[0], int) for term in by) or len(set(by)) < len(by):
        return False
    others = [term for name, term in held.items() if name not in told] + [term for name, term in stands]
    had = {name for term in others for name in names_in(term)} | {name for name, term in stands}
    return not had & set(by) and all(kind_of_term(put_in(term, held)) for term in terms)


class OwnPaperTest(MadeCase):
    def test_blocks_that_are_not_come_to(self):
        middle = one_function((("n0",), (), ("go", 2, ())), ((), (("n1", "copy", ("n9",)),), ("go", 2, ())),
                              ((), (), ("give", ("n0",))))
        self.assert_let_by(middle, middle, own_paper(middle))

    def test_calls_rings_and_needs(self):
        middle = (
            ("f", "n", (
                (("n0",), (("need", "bad", "n0"), ("n1", "copy", (0,))), ("fork", "n0", 1, (), 2, ("n1",))),
                ((), (), ("call", 1, ("n0",), 2, ())),
                (("n2",), (TICK, ("need", "bad", "n2"), ("need", "bad", "n2")), ("fork", "n2", 2, ("n2",), 3, ())),
                ((), (("need", "bad", 0), TICK), ("give", ("n1",))),
            )),
            ("g", "n", ((("n0",), (), ("call", 1, ("n0",), 1, ())), (("n1",), (), ("give", ("n1",))))),
        )
        kept = copy.deepcopy(middle)
        paper = own_paper(middle)
        self.assert_let_by(middle, middle, paper)
        self.assertEqual(middle, kept)
        self.assertIs(type(paper), tuple)

    def test_by_chance(self):
        for seed in range(300):
            maker = RightMaker(seed, names=2 + seed % 7, blocks=2 + seed % 11)
            middle = maker.middle()
            self.assert_let_by(middle, middle, own_paper(middle))
        for seed in range(30):
            maker, middle = drawn(4 * seed)
            self.assert_let_by(middle, middle, own_paper(middle))


class JoinedCase(MadeCase):
    def joined_right(self, one, middle, paper, other, later):
        """The joined paper of two that are let by: let by, or None, which it may not be where point 34 tells so."""
        self.assertIsNone(second_checked(one, middle, paper))
        self.assertIsNone(second_checked(middle, other, later))
        kept = copy.deepcopy((one, paper, later))
        told = joined(one, paper, later)
        self.assertEqual((one, paper, later), kept)
        if told is None:
            self.assertFalse(is_due(paper, later))
        else:
            self.assert_let_by(one, other, told)
        return told


class WrittenTest(JoinedCase):
    """Papers that somebody else wrote, for straight middles."""

    ONE = one_function((("n0", "n1"), (("n2", "add", ("n0", "n1")), TICK), ("go", 1, ())), ((), (), ("give", ("n2",))))

    def test_names_put(self):
        middle = one_function((("n5", "n6"), (("n7", "add", ("n5", "n6")), TICK), ("go", 1, ())), ((), (), ("give", ("n7",))))
        other = one_function((("n8", "n9"), (TICK,), ("go", 1, ())), ((), (("n3", "add", ("n9", "n8")),), ("give", ("n3",))))
        paper = ((((0, 0),), (), (("n5", X), ("n6", Y)), ()), (((0, 1),), (), (("n7", Z),), ()))
        all_held = (paper[0], (((0, 1),), (), (("n5", X), ("n6", Y), ("n7", Z)), ()))
        later = ((((0, 0),), (), (("n8", (0, "n5")), ("n9", (0, "n6"))), ()),
                 (((0, 1),), (((0, "n7"), ("add", (0, "n5"), (0, "n6"))),), (("n8", (0, "n5")), ("n9", (0, "n6"))), ()))
        self.assertIsNone(self.joined_right(self.ONE, middle, (paper,), other, (later,)))
        told = self.joined_right(self.ONE, middle, (all_held,), other, (later,))
        self.assertEqual(told[0][1][1], ((Z, ("add", X, Y)),))

    def test_terms_within_terms(self):
        middle = one_function((("n0", "n1"), (TICK,), ("go", 1, ())), ((), (("n2", "add", ("n0", "n1")),), ("give", ("n2",))))
        other = one_function((("n0", "n1"), (("n5", "mul", ("n0", "n1")), TICK), ("go", 1, ())),
                             ((), (("n2", "add", ("n0", "n1")),), ("give", ("n2",))))
        paper = ((((0, 0),), (), (("n0", X), ("n1", Y)), ()),
                 (((0, 1),), ((Z, ("add", X, Y)),), (("n0", ("sub", Z, Y)), ("n1", Y)), ()))
        later = ((((0, 0),), (), (("n0", X), ("n1", Y)), ()),
                 (((0, 1),), (), (("n0", X), ("n1", Y), ("n5", ("mul", X, Y))), ((("sub", X, X), False),)))
        told = self.joined_right(self.ONE, middle, (paper,), other, (later,))
        self.assertEqual(dict(told[0][1][2])["n5"], ("mul", ("sub", Z, Y), Y))
        self.assertEqual(told[0][1][3], ((("sub", ("sub", Z, Y), ("sub", Z, Y)), False),))

    def test_what_comes_of_it_may_be_no_term(self):
        """Eight within one another and five: thirteen are none; and four: twelve are."""
        def within(many, term):
            for k in range(many):
                term = ("div", term, 7)
            return term
        def rows(name, many):
            names = ["n0"] + [f"n{name + k}" for k in range(many)]
            return tuple((new, "div", (old, 7)) for old, new in zip(names, names[1:]))
        def straight(many):
            return one_function((("n0",), rows(10, many) + (TICK,), ("go", 1, ())),
                                ((), (("n9", "sub", (0, 0)),), ("give", ("n9",))))
        one = straight(0)
        for more in (3, 4):
            middle, other = straight(8), straight(8 + more)
            held = [(("n0", X),), (("n0", X), ("n17", within(8, X)))]
            paper = tuple((((0, b),), (), holds, ()) for b, holds in enumerate(held))
            later = ((((0, 0),), (), (("n0", X),), ()),
                     (((0, 1),), (), ((f"n{17 + more}", within(more, (0, "n17"))),), ()))
            told = self.joined_right(one, middle, (paper,), other, (later,))
            self.assertEqual(told is None, more == 4)

    def test_knows_of_both(self):
        need = ("need", "bad", "n1")
        one = one_function((("n0", "n1"), (), ("fork", "n0", 1, (), 2, ())), ((), (TICK, need), ("fork", "n0", 3, (), 2, ())),
                           ((), (), ("give", (2,))), ((), (TICK, need), ("fork", "n0", 4, (), 2, ())), ((), (), ("give", (4,))))
        # The middle does not fork again, the other does not need again.
        middle = one_function(one[0][2][0], ((), (TICK, need), ("go", 3, ())), one[0][2][2], ((), (TICK, need), ("go", 4, ())),
                              one[0][2][4])
        other = one_function(*middle[0][2][:3], ((), (TICK,), ("go", 4, ())), one[0][2][4])
        own = tuple((((0, b),), (), (("n0", X), ("n1", Y)), ()) for b in range(5))
        paper = tuple((*match[:3], ((X, True),) if b in (1, 3) else ()) for b, match in enumerate(own))
        later = tuple((*match[:3], ((Y, True),) if b == 3 else ()) for b, match in enumerate(own))
        told = self.joined_right(one, middle, (paper,), other, (later,))
        self.assertEqual([match[3] for match in told[0]], [(), ((X, True),), (), ((X, True), (Y, True)), ()])

    def test_places_of_several_frames(self):
        one = (("f", "n", ((("n0",), (), ("call", 1, ("n0",), 1, ("n0",))), (("n1", "n2"), (("n3", "add", ("n1", "n2")),),
                                                                            ("give", ("n3",))))),
               ("g", "n", ((("n0",), (), ("go", 1, ("n0",))), (("n1",), (TICK,), ("give", ("n1",))))))
        middle = (("f", "n", ((("n0",), (TICK,), ("go", 1, ())), ((), (TICK, ("n1", "add", ("n0", "n0"))), ("give", ("n1",))))), one[1])
        other = (("f", "n", ((("n0",), (TICK,), ("go", 1, ())), ((), (TICK, ("n1", "mul", ("n0", 2))), ("give", ("n1",))))), one[1])
        own = ((((1, 0),), (), (("n0", X),), ()), (((1, 1),), (), (("n1", Y),), ()))
        inner = (((0, 1), (1, 1)), (((1, "n1"), (0, "n2")),), (("n0", (0, "n2")),), ())
        paper = (((((0, 0),), (), (("n0", X),), ()), inner), own)
        later = (((((0, 0),), (), (("n0", X),), ()), (((0, 1),), (), (("n0", X),), ())), own)
        told = self.joined_right(one, middle, paper, other, later)
        self.assertEqual(told[0][1], inner)
        # As the later ones such places make no paper, or one that is let by.
        self.joined_right(one, one, own_paper(one), middle, paper)

    def test_no_match_of_the_one_or_the_other(self):
        """A block that the later paper matches with one that is not come to, as the earlier one knows."""
        one = one_function((("n0",), (("n1", "copy", (0,)),), ("fork", "n1", 1, (), 2, ())), ((), (), ("give", (1,))),
                           ((), (), ("give", (2,))))
        paper = (((((0, 0),), (), (("n0", X),), ()), None, (((0, 2),), (), (), ())),)
        later = (((((0, 0),), (), (("n0", X),), ()), (((0, 1),), (), (), ()), (((0, 2),), (), (), ())),)
        told = self.joined_right(one, one, paper, one, later)
        self.assertIsNone(told[0][1])
        told = self.joined_right(one, one, later, one, paper)
        self.assertIsNone(told[0][1])

    def test_later_stands_of_what_is_held_otherwise(self):
        """By a number, by an operation, by one name for two: where the two terms are one form, or a name can stand."""
        one = one_function((("n0", "n1"), (("n2", "copy", (7,)), ("n3", "add", ("n0", "n1")), TICK), ("go", 1, ())),
                           ((), (("n4", "add", ("n2", "n3")),), ("give", ("n4",))))
        other = one_function((("n0", "n1"), (TICK,), ("go", 1, ())),
                             ((), (("n3", "add", ("n1", "n0")), ("n4", "add", ("n3", 7))), ("give", ("n4",))))
        begin = (((0, 0),), (), (("n0", X), ("n1", Y)), ())
        added, named = ("add", X, Y), (0, "n3")
        holds = {"n0": X, "n1": Y, "n2": Z, "n3": named}
        later = (begin, (((0, 1),), ((Z, 7), (named, added)), (("n0", X), ("n1", Y)), ()))
        for more, stands in (({}, ()), ({"n2": 7}, ((Z, 7),)), ({"n3": added}, ((named, added),)),
                             ({"n3": ("add", Y, X)}, ((named, added),)), ({"n0": ("sub", named, Y)}, ()),
                             ({"n2": 7, "n3": added}, ((Z, 7), (named, added)))):
            paper = (begin, (((0, 1),), stands, tuple({**holds, **more}.items()), ()))
            self.assertIsNotNone(self.joined_right(one, one, (paper,), other, (later,)), more)

    def test_a_later_stand_of_a_name_that_is_held_by_a_number(self):
        one = one_function((("n0",), (("n1", "copy", (7,)), ("n2", "copy", (7,)), TICK), ("go", 1, ())),
                           ((), (("n3", "sub", ("n1", "n2")),), ("give", ("n3",))))
        other = one_function((("n0",), (TICK,), ("go", 1, ())), ((), (), ("give", (0,))))
        begin = (((0, 0),), (), (("n0", X),), ())
        paper = (begin, (((0, 1),), ((Y, 7),), (("n1", 7), ("n2", Z)), ()))
        later = (begin, (((0, 1),), ((Y, Z),), (), ()))
        told = self.joined_right(one, one, (paper,), other, (later,))
        self.assertEqual(set(told[0][1][1]), {(Y, 7), (Z, 7)})

    def test_one_name_of_the_one_for_two_of_the_middle(self):
        one = one_function((("n0",), (TICK,), ("go", 1, ())), ((), (("n1", "add", ("n0", "n0")),), ("give", ("n1",))))
        middle = one_function((("n0",), (("n2", "copy", ("n0",)), TICK), ("go", 1, ())),
                              ((), (("n1", "add", ("n0", "n2")),), ("give", ("n1",))))
        other = one_function((("n0",), (TICK,), ("go", 1, ())), ((), (("n1", "mul", ("n0", 2)),), ("give", ("n1",))))
        begin = (((0, 0),), (), (("n0", X),), ())
        paper = (begin, (((0, 1),), (), (("n0", X), ("n2", X)), ()))
        for term in (X, ("copy", X), ("add", X, 0)):
            later = (begin, (((0, 1),), ((Z, term),), (("n0", X),), ()))
            told = self.joined_right(one, middle, (paper,), other, (later,))
            self.assertEqual(told[0][1][1], ())

    def test_later_stands_of_names_that_are_not_held(self):
        """The middle does not read them: their terms are put for them."""
        one = one_function((("n0", "n1"), (TICK,), ("go", 1, ())), ((), (("n2", "add", ("n0", "n1")),), ("give", ("n2",))))
        middle = one_function((("n0", "n1"), (("n3", "add", ("n0", "n1")), ("n4", "mul", ("n3", 2)), TICK), ("go", 1, ())),
                              one[0][2][1])
        other = one_function((("n0", "n1"), (("n3", "add", ("n1", "n0")), TICK), ("go", 1, ())), ((), (), ("give", ("n3",))))
        own = tuple((((0, b),), (), (("n0", X), ("n1", Y)), ()) for b in (0, 1))
        added = ("add", X, Y)
        for holds in (own[1][2], (("n1", Y), ("n0", X), ("n4", ("mul", added, 2)))):
            paper = (own[0], (*own[1][:2], holds, ()))
            later = (own[0], (((0, 1),), (((0, "n3"), added), ((0, "n4"), ("mul", 2, (0, "n3")))), (("n3", (0, "n3")),), ()))
            told = self.joined_right(one, middle, (paper,), other, (later,))
            self.assertEqual(told[0][1][2], (("n3", added),))
        # A stand that can't be told there is of no use: the middle reads neither.
        later = (own[0], (((0, 1),), (((0, "n4"), ("mul", 2, (0, "n3"))),), (("n3", added),), ()))
        self.assertIsNotNone(self.joined_right(one, middle, (own,), other, (later,)))
        # But what is held can't be told without it.
        reading = one_function(other[0][2][0], one[0][2][1])
        later = (own[0], (((0, 1),), (), own[1][2] + (("n3", (0, "n3")),), ()))
        self.assertIsNone(self.joined_right(one, middle, (own,), reading, (later,)))

    def test_stands_into_stands(self):
        """Later stands of names that are held by names which earlier stands have, too."""
        one = one_function((("n0", "n1"), (("n2", "mul", ("n0", "n1")), ("n3", "copy", ("n2",)), ("n4", "add", ("n3", 1)), TICK),
                            ("go", 1, ())), ((), (("n5", "sub", ("n4", "n3")), ("n6", "add", ("n5", "n2"))), ("give", ("n6",))))
        other = one_function((("n0", "n1"), (TICK,), ("go", 1, ())),
                             ((), (("n2", "mul", ("n0", "n1")), ("n6", "add", ("n2", 1))), ("give", ("n6",))))
        names = [(0, f"n{k}") for k in range(5)]
        holds = tuple((name, (0, name)) for depth, name in names)
        begin = (((0, 0),), (), holds[:2], ())
        times = ("mul", X, Y)
        earlier = [(), ((names[3], names[2]),), ((names[2], names[3]),), ((names[4], ("add", names[3], 1)),),
                   ((names[3], ("sub", names[4], 1)),), ((names[2], times), (names[3], names[2])), ((names[3], times),)]
        later = [((names[2], times), (names[3], names[2]), (names[4], ("add", names[2], 1))),
                 ((names[3], times), (names[2], names[3]), (names[4], ("add", names[2], 1))),
                 ((names[4], ("add", times, 1)), (names[2], times), (names[3], names[2])),
                 ((names[2], times), (names[3], times), (names[4], ("add", ("mul", Y, X), 1)))]
        many = 0
        for stands in earlier:
            for further in later:
                paper = ((begin, (((0, 1),), stands, holds, ())),)
                told = self.joined_right(one, one, paper, other, ((begin, (((0, 1),), further, holds[:2], ())),))
                many += told is not None
        self.assertGreater(many, 20)


class ChainsTest(JoinedCase):
    """Papers of makers, of calls that are entered, and own ones, as they are, told more of, and bent."""

    def next_pair(self, chance, middle, first):
        """A further middle and a paper that is let by; calls are entered by the first one alone."""
        if first and chance.random() < 0.4:
            return entered(middle, chance)
        sort = chance.choice([own, once, folded, bare, shared] if second_small(middle) else [own])
        if sort in (folded, bare, shared) and not is_once(middle):
            return once(middle)
        return sort(middle)

    def enriched(self, chance, one, other, paper, times):
        """The paper with more told and bent at places, as far as it is let by."""
        for k in range(times):
            told = Enricher(chance, one).enriched(paper)
            if chance.random() < 0.4:
                told = Bender(chance, one, other).bent(told, 1)
            try:
                shape_asked(one, other, told)
            except NoPaper:
                continue
            if second_checked(one, other, told) is None:
                paper = told
        return paper

    def test_by_chance(self):
        many = {"none": 0, "told": 0, "due": 0, "frames": 0, "stands": 0, "knows": 0}
        for seed in range(150):
            maker, one = drawn(seed, functions=2)
            chance = maker.chance
            middle, paper = self.next_pair(chance, one, True)
            paper = self.enriched(chance, one, middle, paper, chance.choice([0, 6, 25]))
            for k in range(2):
                other, later = self.next_pair(chance, middle, False)
                later = self.enriched(chance, middle, other, later, chance.choice([0, 6, 25]))
                told = self.joined_right(one, middle, paper, other, later)
                many["told" if told else "none"] += 1
                many["due"] += is_due(paper, later)
                if told is None:
                    break
                matches = [match for matches in told for match in matches if match]
                many["frames"] += any(len(match[0]) > 1 for match in matches)
                many["stands"] += any(match[1] for match in matches)
                many["knows"] += any(match[3] for match in matches)
                self.assert_alike(one, other, lambda number: maker.values(one, number), bounds=(0, 1, 4))
                middle, paper = other, told
        self.assertGreater(min(many.values()), 10, many)

    def test_told_counts(self):
        """Own papers with all equations of rows at each block."""
        middle = once(full_middle())[0]
        own_one = own_paper(middle)
        told = stands_at(middle, 0)
        later = (tuple((place, told[b], holds, knows) for b, (place, stands, holds, knows) in enumerate(own_one[0])),)
        self.assertTrue(is_due(own_one, later))
        self.assertEqual(joined(middle, own_one, later), later)

    def test_what_point_34_tells_of_own_papers(self):
        """All names are held by themselves: whatever is matched place by place is joined."""
        for seed in range(60):
            maker, middle = drawn_once(seed)
            for make in (folded, bare, shared):
                other, later = make(middle)
                told = self.joined_right(middle, middle, own_paper(middle), other, later)
                self.assertIsNotNone(told)


def own(middle):
    return middle, own_paper(middle)


if __name__ == "__main__":
    unittest.main()
