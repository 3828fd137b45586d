"""Points 26 and 27: what papers are like; names of terms."""

import copy
import random
import unittest

from papering import RightMaker, entered

from samepaper.checking import checked
from samepaper.errors import NoPaper, SameError
from samepaper.middle import right_middle
from samepaper.papers import names_in, put_in, shape_asked

TICK = ("tick",)

# Function 0 calls function 1, whose results are laid into block 1; block 3 is not come to, and calls function 1, too,
# whose results it leads to block 2. Function 1 calls itself.
ONE = (
    ("f", "n", (
        (("n0", "r0"), (("n1", "copy", (1,)),), ("call", 1, ("n0",), 1, ("n1",))),
        (("n2", "r1", "n3"), (("n4", "copy", (1,)),), ("fork", "n2", 2, (1, "r0"), 4, ())),
        (("n5", "r2"), (), ("give", ("n5",))),
        (("n6",), (), ("call", 1, (1,), 2, ())),
        ((), (), ("give", (2,))),
    )),
    ("g", "nr", (
        (("n0",), (("r5", "make", ()),), ("call", 1, ("n0",), 1, ())),
        (("n1", "r1"), (), ("give", ("n1", "r1"))),
    )),
)
BLANK = ((None,) * 5, (None,) * 2)


def with_match(match, block=1, function=0):
    paper = [list(matches) for matches in BLANK]
    paper[function][block] = match
    return tuple(map(tuple, paper))


class ShapeCase(unittest.TestCase):
    def broken(self, paper, one=ONE, other=ONE):
        """The fields of the refusal, or None."""
        fields = []
        for asked in (shape_asked, checked):
            try:
                told = asked(one, other, paper)
                fields.append(None)
                self.assertIs(told, True)
            except NoPaper as error:
                fields.append((error.function, error.block, error.row, error.word))
        # The checker asks for the shape ahead of all else.
        if fields[0] is not None:
            self.assertEqual(fields[0], fields[1])
        elif fields[1] is not None:
            self.assertNotIn(fields[1][3], ("face", "shape"))
        return fields[0]

    def assert_match(self, *matches, block=1, function=0):
        for match in matches:
            self.assertIsNone(self.broken(with_match(match, block, function)), match)

    def assert_none(self, *matches, block=1, function=0):
        for match in matches:
            self.assertEqual(self.broken(with_match(match, block, function)), (function, block, -1, "shape"), match)


class FaceTest(ShapeCase):
    def test_middles_for_these_tests(self):
        self.assertTrue(right_middle(ONE))

    def test_faces(self):
        def other(number, **told):
            word, results, blocks = ONE[number]
            made = (told.get("word", word), told.get("results", results),
                    ((told.get("params", blocks[0][0]), *blocks[0][1:]), *blocks[1:]))
            return (*ONE[:number], made, *ONE[number + 1:])
        for number in (0, 1):
            for told in ({"word": "h"}, {"results": "nn"}, {"params": ("n0",) * (2 - number) + ("n9",)}, {"params": ()},
                         {"params": ("r0", "n0")}):
                for paper in (BLANK, None, ()):
                    self.assertEqual(self.broken(paper, ONE, other(number, **told)), (number, -1, -1, "face"))
        # Other names of params, blocks and rows are no other faces.
        self.assertIsNone(self.broken(BLANK, ONE, other(0, params=("n7", "r7"))))

    def test_functions_of_one_alone(self):
        self.assertEqual(self.broken(BLANK, ONE, ONE[:1]), (1, -1, -1, "face"))
        self.assertEqual(self.broken(BLANK[:1], ONE[:1], ONE), (1, -1, -1, "face"))
        swapped = (("h", *ONE[0][1:]), *ONE[1:], ("k", "", (((), (), ("give", ())),)))
        self.assertEqual(self.broken(BLANK, ONE, swapped), (0, -1, -1, "face"))
        self.assertEqual(self.broken(BLANK, ONE, (*ONE, swapped[-1])), (2, -1, -1, "face"))


class WholeTest(ShapeCase):
    def test_no_paper(self):
        for paper in (None, (), [], [*BLANK], BLANK[:1], BLANK + (None,), "ab", 2, True, {0: None, 1: None}, b"ab", ("a",)):
            self.assertEqual(self.broken(paper), (-1, -1, -1, "shape"))

    def test_no_matches(self):
        for wrong in (None, (), [None] * 5, (None,) * 4, (None,) * 6, "abcde", 5):
            self.assertEqual(self.broken((wrong, BLANK[1])), (0, -1, -1, "shape"))
        for wrong in (None, (), [None] * 2, (None,), (None,) * 3, "ab", {}):
            self.assertEqual(self.broken((BLANK[0], wrong)), (1, -1, -1, "shape"))

    def test_the_first_break(self):
        match = (((0, 9),), (), (), ())
        self.assertEqual(self.broken(((None,) * 4 + (match,), None)), (0, 4, -1, "shape"))
        self.assertEqual(self.broken((BLANK[0], (match, match))), (1, 0, -1, "shape"))
        self.assertEqual(self.broken((None, (match, match))), (0, -1, -1, "shape"))
        self.assertEqual(self.broken(((None, match, match, None, None), None)), (0, 1, -1, "shape"))

    def test_no_match(self):
        good = (((0, 1),), (), (), ())
        self.assert_match(good, None)
        self.assert_none((), (good,), list(good), good + ((),), good[:3], "abcd", 0, False, ((),) * 4, [], {},
                         ([(0, 1)], (), (), ()), (((0, 1),), [], (), ()), (((0, 1),), (), {}, ()), (((0, 1),), (), (), None))


class PlaceTest(ShapeCase):
    def assert_places(self, *places, block=1, function=0):
        self.assert_match(*[(place, (), (), ()) for place in places], block=block, function=function)

    def assert_no_places(self, *places, block=1, function=0):
        self.assert_none(*[(place, (), (), ()) for place in places], block=block, function=function)

    def test_one_frame(self):
        self.assert_places(((0, 0),), ((0, 1),), ((0, 2),), ((0, 4),), block=3)
        self.assert_places(((1, 0),), ((1, 1),), function=1)
        # Block 3 is not come to; there are no others; the first frame is the function's own.
        self.assert_no_places(((0, 3),), ((0, 5),), ((0, -1),), ((1, 0),), ((2, 0),), ((-1, 0),))
        self.assert_no_places(((0, 0),), ((1, 2),), function=1)

    def test_no_frames(self):
        self.assert_no_places((), ((0,),), ((0, 1, 0),), (0, 1), ([0, 1],), ((0, "1"),), ((0, None),), ((False, True),),
                              ((0, True),), ((False, 1),), ("ab",), (None,), ((0, (1,)),), ((0, 10 ** 30),))

    def test_frames_that_wait(self):
        self.assert_places(((0, 1), (1, 0)), ((0, 1), (1, 1)), ((0, 1), (1, 1), (1, 0)))
        # A call from a block that is not come to leads to block 2.
        self.assert_places(((0, 2), (1, 1)))
        self.assert_no_places(((0, 0), (1, 0)), ((0, 4), (1, 0)), ((0, 3), (1, 0)), ((0, 1), (0, 1)), ((0, 1), (1, 0), (1, 0)),
                              ((1, 1), (1, 0)), ((0, 1), (1, 1), (0, 0)), ((0, 1), (1, 2)))
        self.assert_places(((1, 1), (1, 0)), function=1)

    def test_one_to_eight_frames(self):
        for many in range(1, 9):
            self.assert_places(((1, 1),) * many, ((1, 1),) * (many - 1) + ((1, 0),), function=1)
        self.assert_no_places((), ((1, 1),) * 9, ((1, 1),) * 8 + ((1, 0),), function=1)


class TermsTest(ShapeCase):
    """At block 1 of function 0: n0, n1, n2, n3, r0, r1 are given for sure."""

    def matches(self, stands=(), holds=(), knows=(), place=((0, 1),)):
        return (place, stands, holds, knows)

    def test_names_of_a_depth(self):
        names = ["n0", "n1", "n2", "n3", "r0", "r1"]
        for name in ["n0", "n1", "n2", "n3", "n4", "n5", "n6", "r0", "r1", "r2"]:
            match = self.matches(holds=((name, (0, name)),))
            self.assert_match(match) if name in names else self.assert_none(match)
            self.assert_none(self.matches(holds=((name, (1, name)),)))

    def test_names_of_frames_that_wait(self):
        place = ((0, 1), (1, 0))
        for name in ("n0", "n1", "n3", "r0"):
            self.assert_match(self.matches(holds=((name, (0, name)),), place=place))
        # Function 1 gives n2 and r1 there; n3 is laid at once.
        for term in ((0, "n2"), (0, "n4"), (1, "n1"), (2, "n0")):
            self.assert_none(self.matches(holds=(("n9", term),), place=place))
        self.assert_none(self.matches(holds=(("r9", (0, "r1")),), place=place))
        self.assert_match(self.matches(holds=(("n9", (1, "n0")),), place=place))
        for place in (((1, 1), (1, 1)), ((1, 1),) * 3):
            last = len(place) - 1
            for term in ((0, "n0"), (last, "n0"), (last, "n1")):
                self.assert_match(self.matches(holds=(("n9", term),), place=place), function=1)
            for term in ((0, "n1"), (last - 1, "n1")):
                self.assert_none(self.matches(holds=(("n9", term),), place=place), function=1)
            self.assert_match(self.matches(holds=(("r9", (0, "r5")),), place=place), function=1)

    def test_stands(self):
        def stands(*told):
            return self.matches(stands=told)
        self.assert_match(stands(), stands(((0, "n0"), 5)), stands(((0, "n0"), (0, "n1")), ((0, "r0"), ("make", (0, "n0")))))
        self.assert_none(stands(None), stands(()), stands((0, "n0")), stands(((0, "n0"),)), stands(((0, "n0"), 5, 5)),
                         stands([(0, "n0"), 5]), stands(("n0", 5)), stands(((0, "n4"), 5)), stands(((1, "n0"), 5)),
                         stands(((False, "n0"), 5)), stands(((0, "x"), 5)), stands((5, (0, "n0"))), stands(([0, "n0"], 5)))

    def test_stands_tell_each_name_once(self):
        def stands(*told):
            return self.matches(stands=told)
        self.assert_match(stands(((0, "n0"), 5), ((0, "n1"), 5)))
        self.assert_none(stands(((0, "n0"), 5), ((0, "n0"), 5)), stands(((0, "n0"), 5), ((0, "n1"), 5), ((0, "n0"), 6)))
        place = ((0, 1), (1, 0))
        self.assert_match((place, (((0, "n0"), 5), ((1, "n0"), 5)), (), ()))

    def test_a_stand_has_no_name_that_it_or_a_later_one_tells(self):
        def stands(*told):
            return self.matches(stands=told)
        a, b, c = (0, "n0"), (0, "n1"), (0, "n2")
        self.assert_match(stands((a, b)), stands((a, b), (c, a)), stands((a, ("add", b, b)), (c, ("add", a, b))))
        self.assert_none(stands((a, a)), stands((a, ("add", b, ("sub", a, a)))), stands((a, b), (b, c)), stands((a, b), (b, a)),
                         stands((a, 1), (b, c), (c, 1)))

    def test_holds(self):
        def holds(*told):
            return self.matches(holds=told)
        self.assert_match(holds(("n0", 5)), holds(("n77", (0, "n0")), ("r99999", ("make", 1))), holds(("n4", 1), ("n5", 1)))
        self.assert_none(holds(("n0", 5), ("n0", 5)), holds(("n0", 5), ("n1", 6), ("n0", 5)), holds(("x", 5)), holds(("n00", 5)),
                         holds(((0, "n0"), 5)), holds((0, 5)), holds((None, 5)), holds(("n0",)), holds(("n0", 5, 5)),
                         holds(["n0", 5]), holds("n0"), holds(None), holds(([], 5)), holds(("n100000", 1)), holds(("x", None)),
                         holds(("", ())))

    def test_knows(self):
        def knows(*told):
            return self.matches(knows=told)
        self.assert_match(knows((1, True)), knows((0, True), (0, False)), knows((("size", (0, "r0")), False)))
        self.assert_none(knows((1, 1)), knows((1, 0)), knows((1, None)), knows((1,)), knows((1, True, True)), knows([1, True]),
                         knows(None), knows(((0, "r0"), True)), knows((True, True)), knows((("make",), True)), knows((None, True)))

    def test_terms_of_their_kinds(self):
        for kind, right, wrong in (("n", [1, (0, "n0"), ("size", (0, "r1"))], [(0, "r0"), ("make",), ("keep", (0, "r0"))]),
                                   ("r", [(0, "r0"), ("make",), ("many", 1, (0, "n3"))], [1, (0, "n0"), ("at", (0, "r0"), 1)])):
            name = kind + "0"
            for term in right:
                self.assert_match(self.matches(holds=((name, term),)))
                if (0, name) != term:
                    self.assert_match(self.matches(stands=(((0, name), term),)))
            none = [None, True, "n0", (), ("copy",), (0,), 32768, [], ("add", 1), ("and", 1, 1), {}, ({}, 1)]
            for term in [*wrong, *none, nested(13) if kind == "n" else ("keep",)]:
                self.assert_none(self.matches(holds=((name, term),)), self.matches(stands=(((0, name), term),)))
                if kind == "n":
                    self.assert_none(self.matches(knows=((term, True),)))

    def test_names_within_terms(self):
        inner = ("add", 1, ("mul", 2, (0, "n4")))
        self.assert_none(self.matches(holds=(("n0", inner),)), self.matches(stands=(((0, "n0"), inner),)),
                         self.matches(knows=((inner, True),)))

    def test_things_a_hundred_deep(self):
        deep = 1
        for k in range(90):
            deep = ("copy", deep)
        self.assert_none(self.matches(holds=(("n0", deep),)), self.matches(knows=((deep, True),)), self.matches(deep), deep)
        deep = ()
        for k in range(95):
            deep = (deep, deep)
        self.assert_none(self.matches(holds=(("n0", deep),)), self.matches(place=deep), deep)
        self.assertEqual(self.broken(deep)[3], "shape")

    def test_any_thing(self):
        """Things drawn in the likeness of papers are never anything but let by or refused."""
        words = set()
        for seed in range(3000):
            chance = random.Random(seed)
            paper = with_match(drawn(chance, 4), chance.randrange(5)) if seed % 3 else drawn(chance, 6)
            try:
                checked(ONE, ONE, paper)
            except SameError as error:
                words.add(error.word)
        self.assertEqual(words, {"shape", "place"})

    def test_nothing_handed_in_is_changed(self):
        for seed in range(50):
            maker = RightMaker(seed)
            one = maker.middle()
            other, paper = entered(one, maker.chance)
            kept = copy.deepcopy((one, other, paper))
            self.assertTrue(shape_asked(one, other, paper))
            self.assertEqual((one, other, paper), kept)


def nested(deep):
    term = 1
    for k in range(deep - 1):
        term = ("copy", term)
    return term


def drawn(chance, deep):
    if deep == 0 or chance.random() < 0.2:
        return chance.choice([None, True, False, 0, 1, -1, "n0", "r0", "add", "", (), [], {}, ((0, 1),), (0, "n0"), 40000])
    many = chance.choice([0, 1, 2, 2, 4, 5])
    things = [drawn(chance, deep - 1) for k in range(many)]
    return things if chance.random() < 0.1 else tuple(things)


class NamesTest(unittest.TestCase):
    def test_names_in(self):
        self.assertEqual(names_in(5), [])
        self.assertEqual(names_in((0, "n0")), [(0, "n0")])
        self.assertEqual(names_in(("make",)), [])
        term = ("add", (1, "n2"), ("pick", (0, "n9"), (1, "n10"), ("at", (0, "r1"), (1, "n2"))))
        self.assertEqual(names_in(term), [(0, "n9"), (0, "r1"), (1, "n10"), (1, "n2")])
        self.assertIs(type(names_in(term)), list)
        names_in(term).clear()
        self.assertEqual(len(names_in(term)), 4)

    def test_put_in(self):
        terms = {(0, "n0"): ("add", (2, "n7"), 1), (0, "r0"): ("make",), (1, "n0"): (0, "n0"), (0, "n9"): 4}
        kept = copy.deepcopy(terms)
        self.assertEqual(put_in(5, {}), 5)
        self.assertEqual(put_in((0, "n9"), terms), 4)
        self.assertEqual(put_in((1, "n0"), terms), (0, "n0"))
        self.assertEqual(put_in(("make",), {}), ("make",))
        self.assertEqual(put_in(("mul", (0, "n0"), ("at", (0, "r0"), (1, "n0"))), terms),
                         ("mul", ("add", (2, "n7"), 1), ("at", ("make",), (0, "n0"))))
        self.assertEqual(terms, kept)

    def test_put_in_may_go_beyond_bounds(self):
        deep = nested(12)
        told = put_in(("copy", ("copy", (0, "n0"))), {(0, "n0"): deep})
        self.assertEqual(told, ("copy", ("copy", deep)))
        wide = ("make", *[(0, "n0")] * 8)
        self.assertEqual(put_in(wide, {(0, "n0"): deep}), ("make", *[deep] * 8))


if __name__ == "__main__":
    unittest.main()
