"""Points 28 to 33, and point 4: the small checker."""

import copy
import random
import unittest

from middles import second_run
from papering import Bender, Enricher, RightMaker, bent_middle, entered
from second_checker import second_checked

from samepaper.checking import checked
from samepaper.errors import NoPaper
from samepaper.middle import right_middle
from samepaper.papers import shape_asked
from samepaper.running import run

TICK = ("tick",)


def match(place, holds="", stands=(), knows=()):
    """A match; a place may be a block of function 0, holds names that are held by themselves, or pairs."""
    place = ((0, place),) if isinstance(place, int) else place
    holds = [(name, (0, name)) for name in holds.split()] if isinstance(holds, str) else holds
    return (place, tuple(stands), tuple(holds), tuple(knows))


def one_function(*blocks, results="n"):
    return (("f", results, blocks),)


class CheckCase(unittest.TestCase):
    def told(self, one, other, paper):
        right_middle(one)
        right_middle(other)
        shape_asked(one, other, paper)
        kept = copy.deepcopy((one, other, paper))
        try:
            self.assertIs(checked(one, other, paper), True)
            fields = None
        except NoPaper as error:
            fields = (error.function, error.block, error.row, error.word)
        self.assertEqual((one, other, paper), kept)
        self.assertEqual(second_checked(one, other, paper), fields)
        return fields

    def assert_let_by(self, one, other, *matches):
        paper = matches if isinstance(matches[0][0], tuple) and len(one) > 1 else (matches,)
        self.assertIsNone(self.told(one, other, paper))
        for function, (word, results, blocks) in enumerate(one):
            for number in (0, 1, 2, -1, 7):
                for row in ((), (0, 1), (3, 4, 5)):
                    values = tuple(number if name[0] == "n" else row for name in blocks[0][0])
                    for bound in (0, 1, 2, 3, 7):
                        self.assertEqual(run(one, function, values, bound), run(other, function, values, bound))

    def assert_broken(self, fields, one, other, *matches):
        paper = matches if len(one) > 1 else (matches,)
        self.assertEqual(self.told(one, other, paper), fields)


class RightPapersTest(CheckCase):
    def test_rows_left_out_moved_and_made_otherwise(self):
        one = one_function((("n0",), (("n1", "add", ("n0", 0)), ("n2", "mul", ("n1", 7))), ("give", ("n1",))))
        self.assert_let_by(one, one_function((("n5",), (), ("give", ("n5",)))), match(0, [("n5", (0, "n0"))]))
        one = one_function((("n0",), (TICK, ("n1", "mul", ("n0", 2))), ("give", ("n1",))))
        other = one_function((("n0",), (("n1", "add", ("n0", "n0")), TICK), ("give", ("n1",))))
        self.assert_let_by(one, other, match(0, "n0"))
        self.assert_let_by(other, one, match(0, "n0"))

    def test_nothing_has_to_be_held(self):
        one = one_function((("n0",), (), ("give", (3,))))
        self.assert_let_by(one, one, match(0))

    def test_blocks_laid_together_and_apart(self):
        one = one_function((("n0",), (), ("go", 1, ("n0",))), (("n1",), (("n2", "add", ("n1", 1)),), ("go", 2, ())),
                           ((), (), ("give", ("n2",))))
        other = one_function((("n0",), (("n1", "add", (1, "n0")),), ("give", ("n1",))))
        self.assert_let_by(one, other, match(0, "n0"))
        # Standing there already: three blocks of the other at one place of the one.
        apart = [match(0, "n0"), match(0, [("n1", (0, "n0"))]), match(0, [("n2", ("add", (0, "n0"), 1))])]
        self.assert_let_by(other, one, *apart)

    def test_forks_decided_by_a_number(self):
        one = one_function((("n0",), (("n1", "sub", ("n0", "n0")),), ("fork", "n1", 1, (), 2, ())), ((), (), ("give", (1,))),
                           ((), (), ("fork", 5, 3, (), 1, ())), ((), (), ("give", (2,))))
        other = one_function((("n0",), (), ("give", (2,))))
        self.assert_let_by(one, other, match(0))
        self.assert_let_by(other, one, match(0, "n0"), None, match(0), match(0))

    def test_forks_decided_by_what_is_known(self):
        one = one_function((("n0",), (), ("fork", "n0", 1, (), 2, ())), ((), (), ("fork", "n0", 3, (), 2, ())),
                           ((), (), ("give", (0,))), ((), (), ("give", (1,))))
        other = one_function((("n0",), (), ("fork", "n0", 1, (), 2, ())), ((), (), ("give", (1,))), ((), (), ("give", (0,))))
        self.assert_let_by(one, other, match(0, "n0"), match(3), match(2))
        # Or with the place ahead of the second fork, which is decided by what the match knows.
        self.assert_let_by(one, other, match(0, "n0"), match(1, knows=[((0, "n0"), True)]), match(2))
        self.assert_broken((0, 1, 0, "open"), one, other, match(0, "n0"), match(1), match(2))
        self.assert_let_by(other, one, match(0, "n0"), match(1, "n0", knows=[((0, "n0"), True)]), match(2), match(1))

    def test_needs_that_pass(self):
        one = one_function((("n0",), (("need", "bad", "n0"), ("n1", "copy", ("n0",)), ("need", "worse", "n1"),
                                      ("need", "bad", 5), TICK), ("give", (1,))))
        other = one_function((("n0",), (("need", "bad", "n0"), TICK), ("give", (1,))))
        self.assert_let_by(one, other, match(0, "n0"))
        self.assert_let_by(other, one, match(0, "n0"))

    def test_needs_known_at_a_later_block(self):
        one = one_function((("n0",), (("need", "bad", "n0"),), ("go", 1, ())), ((), (TICK, ("need", "bad", "n0")), ("go", 1, ())))
        other = one_function((("n0",), (("need", "bad", "n0"),), ("go", 1, ())), ((), (TICK,), ("go", 1, ())))
        knows = [((0, "n0"), True)]
        self.assert_let_by(one, other, match(0, "n0"), match(1, knows=knows))
        self.assert_broken((0, 1, 1, "place"), one, other, match(0, "n0"), match(1))
        self.assert_let_by(other, one, match(0, "n0"), match(1, "n0", knows=knows))
        self.assert_broken((0, 1, 1, "event"), other, one, match(0, "n0"), match(1, "n0"))

    def test_loops(self):
        one = one_function(
            (("n0",), (("n1", "copy", (0,)), ("n3", "copy", (0,))), ("go", 1, ())),
            ((), (), ("fork", "n0", 2, (), 3, ())),
            ((), (TICK, ("n0", "sub", ("n0", 1)), ("n1", "add", ("n1", 2)), ("n3", "add", ("n3", 1))), ("go", 1, ())),
            ((), (), ("give", ("n1",))))
        # Counts rounds alone, by params, and reckons what is given behind the loop.
        other = one_function(
            (("n5",), (), ("go", 1, ("n5", 0))),
            (("n6", "n7"), (), ("fork", "n6", 2, (), 3, ())),
            ((), (TICK, ("n8", "add", ("n6", -1)), ("n9", "add", ("n7", 1))), ("go", 1, ("n8", "n9"))),
            ((), (("n10", "mul", ("n7", 2)),), ("give", ("n10",))))
        begin = match(0, [("n5", (0, "n0"))])
        stands = [((0, "n1"), ("add", (0, "n3"), (0, "n3")))]
        holds = [("n6", (0, "n0")), ("n7", (0, "n3"))]
        told = [match(block, holds, stands) for block in (1, 2, 3)]
        self.assert_let_by(one, other, begin, *told)
        self.assert_broken((0, 3, 1, "give"), one, other, begin, *told[:2], match(3, holds))
        self.assert_broken((0, 2, 3, "stand"), one, other, begin, told[0], match(2, holds), told[2])


CALLING = (
    ("f", "n", (
        (("n0",), (), ("call", 1, ("n0",), 1, ("n0",))),
        (("n1", "n2"), (("n3", "add", ("n1", "n2")),), ("give", ("n3",))),
    )),
    ("g", "n", (
        (("n0",), (), ("fork", "n0", 1, (), 2, ())),
        ((), (TICK,), ("give", (5,))),
        ((), (), ("give", ("n0",))),
    )),
)
OWN_G = (match(((1, 0),), "n0"), match(((1, 1),), "n0"), match(((1, 2),), "n0"))


class CallsTest(CheckCase):
    def test_the_same_call(self):
        self.assert_let_by(CALLING, CALLING, (match(0, "n0"), match(1, "n1 n2")), OWN_G)

    def test_results_are_the_same_things(self):
        other = ((*CALLING[0][:2], (CALLING[0][2][0], (("n1", "n2"), (("n3", "add", ("n2", "n1")),), ("give", ("n3",))))),
                 CALLING[1])
        self.assert_let_by(CALLING, other, (match(0, "n0"), match(1, "n1 n2")), OWN_G)
        swapped = [("n1", (0, "n2")), ("n2", (0, "n1"))]
        self.assert_broken((0, 0, 0, "hold"), CALLING, other, (match(0, "n0"), match(1, swapped)), OWN_G)

    def test_a_call_entered(self):
        other = (("f", "n", (
            (("n0",), (TICK,), ("fork", "n0", 1, (), 2, ())),
            ((), (TICK, ("n1", "add", ("n0", 5))), ("give", ("n1",))),
            ((), (("n1", "add", ("n0", "n0")),), ("give", ("n1",))),
        )), CALLING[1])
        inside = [match(((0, 1), (1, block)), [("n0", (0, "n2"))], [((1, "n0"), (0, "n2"))]) for block in (1, 2)]
        self.assert_let_by(CALLING, other, (match(0, "n0"), *inside), OWN_G)
        # The args are told ahead of the fork of the callee.
        at_begin = [match(((0, 1), (1, 0)), [("n0", (1, "n0"))], [((0, "n2"), (1, "n0"))], [((1, "n0"), block == 1)])
                    for block in (1, 2)]
        self.assert_let_by(CALLING, other, (match(0, "n0"), *at_begin), OWN_G)
        # Without what is known the callee's fork is open.
        unknown = [match(((0, 1), (1, 0)), [("n0", (1, "n0"))], [((0, "n2"), (1, "n0"))]) for block in (1, 2)]
        self.assert_broken((0, 1, 0, "open"), CALLING, other, (match(0, "n0"), *unknown), OWN_G)
        # And without the stand the sum is another one.
        apart = [match(((0, 1), (1, block)), [("n0", (1, "n0"))]) for block in (1, 2)]
        self.assert_broken((0, 1, 2, "give"), CALLING, other, (match(0, "n0"), *apart), OWN_G)

    def test_calls_that_are_unlike(self):
        def other(callee, args):
            return ((*CALLING[0][:2], ((("n0",), (), ("call", callee, args, 1, ("n0",))), CALLING[0][2][1])), CALLING[1])
        own = (match(0, "n0"), match(1, "n1 n2"))
        self.assert_broken((0, 0, 0, "event"), CALLING, other(0, ("n0",)), own, OWN_G)
        self.assert_broken((0, 0, 0, "event"), CALLING, other(1, (5,)), own, OWN_G)
        self.assert_broken((0, 0, 0, "event"), other(1, (5,)), CALLING, own, OWN_G)

    def test_a_call_does_not_meet_a_tick(self):
        ticking = (("f", "n", ((("n0",), (TICK, ("n3", "copy", (5,))), ("give", ("n3",))),)), CALLING[1])
        self.assert_broken((0, 0, 0, "event"), ticking, CALLING, (match(0, "n0"), None), OWN_G)

    def test_what_is_read_ahead_of_a_call(self):
        own = (match(0), match(1, "n1 n2"))
        self.assert_broken((0, 0, 0, "name"), CALLING, CALLING, own, OWN_G)
        more = ((*CALLING[0][:2], ((("n0",), (), ("call", 1, (5,), 1, ("n0",))), CALLING[0][2][1])), CALLING[1])
        self.assert_broken((0, 0, 0, "name"), more, more, own, OWN_G)

    def test_calls_entered_within_one_another(self):
        deep = (("f", "", ((("n0",), (), ("call", 0, ("n0",), 1, ())), ((), (), ("give", ())))),)
        other = (("f", "", ((("n0",), (TICK,) * 8, ("go", 1, ())), ((), (TICK,), ("go", 1, ())))),)
        place = ((0, 1),) * 7 + ((0, 0),)
        self.assert_broken((0, 0, 8, "place"), deep, other, match(0), match(place))
        other = (("f", "", ((("n0",), (TICK,) * 7, ("go", 1, ())), ((), (TICK,), ("go", 1, ())))),)
        self.assert_broken((0, 1, 1, "place"), deep, other, match(0), match(place))


class WordsTest(CheckCase):
    LOOP = one_function(
        (("n0",), (("n1", "copy", (0,)),), ("go", 1, ())),
        ((), (TICK,), ("fork", "n0", 2, (), 3, ())),
        ((), (("n0", "sub", ("n0", 1)), ("n1", "add", ("n1", 2))), ("go", 1, ())),
        ((), (), ("give", ("n1",))))
    OWN = tuple(match(block, "n0 n1" if block else "n0") for block in range(4))

    def put(self, at, told):
        return self.OWN[:at] + (told,) + self.OWN[at + 1:]

    def test_own(self):
        self.assert_let_by(self.LOOP, self.LOOP, *self.OWN)

    def test_place_at_the_begin(self):
        self.assert_broken((0, 0, -1, "place"), self.LOOP, self.LOOP, *self.put(0, None))
        self.assert_broken((0, 0, -1, "place"), self.LOOP, self.LOOP, *self.put(0, match(1, "n0")))
        self.assert_broken((0, 0, -1, "place"), self.LOOP, self.LOOP, *self.put(0, match(1)))

    def test_what_is_asked_at_the_begin(self):
        two = one_function((("n0", "n1"), (), ("give", ("n0",))))
        self.assert_let_by(two, two, match(0, "n0 n1", knows=[(5, True), (0, False), (("sub", (0, "n0"), (0, "n0")), False)]))
        self.assert_broken((0, 0, -1, "stand"), two, two, match(0, "n0", [((0, "n0"), (0, "n1"))], [(0, True)]))
        self.assert_broken((0, 0, -1, "stand"), two, two, match(0, "n0", [((0, "n0"), 0)]))
        self.assert_broken((0, 0, -1, "hold"), two, two, match(0, [("n0", (0, "n1"))], knows=[(0, True)]))
        self.assert_broken((0, 0, -1, "hold"), two, two, match(0, [("n0", (0, "n0")), ("n2", (0, "n1"))]))
        self.assert_broken((0, 0, -1, "hold"), two, two, match(0, [("n0", 0)]))
        self.assert_broken((0, 0, -1, "know"), two, two, match(0, "n0", knows=[((0, "n0"), True)]))
        self.assert_broken((0, 0, -1, "know"), two, two, match(0, "n0", knows=[(1, True), (0, True)]))
        self.assert_broken((0, 0, -1, "know"), two, two, match(0, "n0", knows=[(1, False)]))

    def test_params_are_the_same_one_by_one(self):
        one = one_function((("n0", "n1"), (), ("give", ("n0",))))
        other = one_function((("n1", "n0"), (), ("give", ("n1",))))
        self.assert_let_by(one, other, match(0, [("n1", (0, "n0")), ("n0", (0, "n1"))]))
        self.assert_broken((0, 0, -1, "hold"), one, other, match(0, "n0 n1"))

    def test_place_at_a_block(self):
        self.assert_broken((0, 0, 1, "place"), self.LOOP, self.LOOP, *self.put(1, None))
        self.assert_broken((0, 1, 1, "place"), self.LOOP, self.LOOP, *self.put(2, None))
        self.assert_broken((0, 1, 1, "place"), self.LOOP, self.LOOP, *self.put(3, None))
        # An event comes ahead of the match's place.
        self.assert_broken((0, 0, 1, "place"), self.LOOP, self.LOOP, *self.put(1, match(2, "n0 n1")))

    def test_place_is_come_to_in_just_the_match_s_frames(self):
        other = (("f", "n", ((("n0",), (TICK,), ("go", 1, ())), ((), (), ("give", (5,))))), CALLING[1])
        five = (CALLING[0], ("g", "n", ((("n0",), (), ("go", 1, ())), ((), (), ("give", (5,))))))
        one = (("f", "n", ((("n0",), (), ("call", 1, ("n0",), 1, ())), (("n1",), (), ("give", ("n1",))))), five[1])
        other = (other[0], five[1])
        own = (match(((1, 0),), "n0"), match(((1, 1),), "n0"))
        for place in (((0, 1),), ((0, 1), (1, 0)), ((0, 1), (1, 1))):
            stands = [((0, "n1"), 5)] if len(place) == 1 else ()
            self.assert_let_by(one, other, (match(0, "n0"), match(place, stands=stands)), own)
        # The block is right, but the frames are not.
        self.assert_broken((0, 0, 1, "place"), one, other, (match(0, "n0"), match(0)), own)

    def test_open(self):
        straight = one_function((("n0",), (("need", "bad", "n0"), TICK), ("give", (1,))))
        forked = one_function((("n0",), (), ("fork", "n0", 1, (), 2, ())), ((), (TICK,), ("give", (1,))),
                              ((), (("need", "bad", 0),), ("give", (1,))))
        self.assert_broken((0, 0, 0, "open"), forked, straight, match(0, "n0"))
        # A fork of the other lets it know; that a number known as 0 is 0 is more than that.
        twice = one_function((("n0",), (), ("fork", "n0", 1, (), 2, ())), ((), (TICK,), ("give", (1,))),
                             ((), (("need", "bad", "n0"),), ("give", (1,))))
        for told in (match(2, "n0"), match(2, "n0", knows=[((0, "n0"), False)])):
            self.assert_broken((0, 2, 0, "event"), forked, twice, match(0, "n0"), match(1), told)
        self.assert_let_by(forked, forked, match(0, "n0"), match(1), match(2))

    def test_open_on_the_way_to_a_place(self):
        one = one_function((("n0",), (), ("fork", "n0", 1, (), 2, ())), ((), (), ("give", (1,))), ((), (), ("go", 1, ())))
        other = one_function((("n0",), (), ("go", 1, ())), ((), (), ("give", (1,))))
        self.assert_broken((0, 0, 0, "open"), one, other, match(0, "n0"), match(1))

    def test_event(self):
        def rows(*told):
            return one_function((("n0", "n1"), told, ("give", (1,))))
        own = match(0, "n0 n1")
        bad, worse, other = ("need", "bad", "n0"), ("need", "worse", "n0"), ("need", "bad", "n1")
        for one, two, row in (((TICK,), (), 0), ((), (TICK,), 0), ((bad,), (TICK,), 0), ((TICK,), (bad,), 0), ((bad,), (worse,), 0),
                              ((bad,), (other,), 0), ((bad, other), (other, bad), 0), ((bad, TICK), (TICK, bad), 0),
                              ((TICK, bad), (TICK, TICK), 1), ((bad,), (bad, TICK), 1), ((("need", "bad", 0),), (bad,), 0)):
            self.assert_broken((0, 0, row, "event"), rows(*one), rows(*two), own)

    def test_give(self):
        def gives(*told):
            return one_function((("n0", "r0"), (), ("give", told)), results="nr")
        own = match(0, "n0 r0")
        for told in ((1, "r0"), (2, "r0")):
            self.assert_broken((0, 0, 0, "give"), gives("n0", "r0"), gives(*told), own)
        made = one_function((("n0", "r0"), (("r1", "make", (1,)),), ("give", ("n0", "r1"))), results="nr")
        self.assert_broken((0, 0, 1, "give"), gives("n0", "r0"), made, own)

    def test_name(self):
        def row(told, *held):
            other = one_function((("n0", "r0"), (TICK, told), ("give", (1,))))
            one = one_function((("n0", "r0"), (TICK, ("need", "bad", "n0")), ("give", (1,))))
            return one, other, match(0, [(name, (0, name)) for name in held])
        self.assert_broken((0, 0, 1, "name"), *row(("n1", "copy", ("n0",))))
        self.assert_broken((0, 0, 1, "name"), *row(("n1", "at", ("r0", "n0")), "r0"))
        self.assert_broken((0, 0, 1, "name"), *row(("n1", "at", ("r0", "n0")), "n0"))
        self.assert_broken((0, 0, 1, "name"), *row(("need", "bad", "n0"), "r0"))
        for end in (("go", 1, ("n0",)), ("fork", "n0", 1, (1,), 1, (2,)), ("fork", 1, 1, ("n0",), 1, (2,)),
                    ("call", 0, ("n0",), 1, ()), ("call", 0, (1,), 1, ())):
            params = ("n1",)
            other = one_function((("n0",), (), end), (params, (), ("give", (1,))))
            told = None if end == ("call", 0, (1,), 1, ()) else (0, 0, 0, "name")
            self.assertEqual(self.told(other, other, ((match(0), match(1)),)), told)
        give = one_function((("n0",), (), ("give", ("n0",))))
        self.assert_broken((0, 0, 0, "name"), give, give, match(0))

    def test_a_row_gives_its_name_a_form(self):
        other = one_function((("n0",), (("n0", "copy", (5,)),), ("give", ("n0",))))
        self.assert_let_by(other, other, match(0))
        twice = one_function((("n0",), (("n0", "add", ("n0", 1)), ("n0", "add", ("n0", 1))), ("give", ("n0",))))
        once = one_function((("n0",), (("n1", "add", ("n0", 2)),), ("give", ("n1",))))
        self.assert_let_by(twice, once, match(0, "n0"))
        self.assert_let_by(once, twice, match(0, "n0"))

    def test_stand_hold_know(self):
        for told, at, word in ((match(1, "n0 n1", [((0, "n1"), 0)]), (0, 2, 2), "stand"),
                               (match(1, "n0 n1", [((0, "n1"), 5)]), (0, 0, 1), "stand"),
                               # Held is what the one's name is not: by the next block, whose match tells otherwise.
                               (match(1, [("n0", (0, "n0")), ("n1", 0)]), (0, 1, 1), "hold"),
                               (match(1, [("n0", (0, "n1"))]), (0, 0, 1), "hold"),
                               (match(1, [("n0", (0, "n0")), ("n2", 0)]), (0, 0, 1), "hold"),
                               (match(1, "n0 n1", knows=[((0, "n0"), True)]), (0, 0, 1), "know"),
                               (match(1, "n0 n1", knows=[((0, "n1"), False)]), (0, 2, 2), "know")):
            self.assert_broken((*at, word), self.LOOP, self.LOOP, *self.put(1, told))

    def test_stands_ahead_of_holds_ahead_of_knows(self):
        one = one_function((("n0",), (("n1", "copy", (1,)),), ("go", 1, ())), ((), (), ("give", (1,))))
        stand, hold, know = ((0, "n1"), 2), ("n7", 1), (0, True)
        right_stand, right_hold, right_know = ((0, "n1"), 1), ("n1", 1), (1, True)
        self.assert_broken((0, 0, 1, "stand"), one, one, match(0, "n0"), match(1, [hold], [stand], [know]))
        self.assert_broken((0, 0, 1, "hold"), one, one, match(0, "n0"), match(1, [hold], [right_stand], [know]))
        self.assert_broken((0, 0, 1, "hold"), one, one, match(0, "n0"), match(1, [right_hold, hold], [right_stand], [know]))
        self.assert_broken((0, 0, 1, "know"), one, one, match(0, "n0"), match(1, [right_hold], [right_stand], [right_know, know]))
        self.assert_let_by(one, one, match(0, "n0"), match(1, [right_hold], [right_stand], [right_know]))

    def test_names_that_live_on_are_held(self):
        one = one_function((("n0",), (("n1", "copy", (1,)),), ("go", 1, (2,))), (("n2",), (), ("give", ("n0",))))
        for holds in ("n0", "n0 n1", "n0 n1 n2"):
            self.assert_let_by(one, one, match(0, "n0"), match(1, holds))
        self.assert_broken((0, 0, 1, "hold"), one, one, match(0, "n0"), match(1, [("n3", 1)]))
        self.assert_broken((0, 0, 1, "hold"), one, one, match(0, [("n0", (0, "n0"))]), match(1, [("n0", (0, "n2"))]))

    def test_params_are_laid_all_at_once(self):
        one = one_function((("n0", "n1"), (), ("go", 1, ("n1", "n0"))), (("n0", "n1"), (TICK,), ("go", 1, ("n1", "n0"))))
        self.assert_let_by(one, one, match(0, "n0 n1"), match(1, "n0 n1"))
        other = one_function((("n0", "n1"), (), ("go", 1, ("n0", "n1"))), (("n0", "n1"), (TICK,), ("go", 1, ("n1", "n0"))))
        crossed = match(1, [("n0", (0, "n1")), ("n1", (0, "n0"))])
        self.assert_let_by(one, other, match(0, "n0 n1"), crossed)
        self.assert_broken((0, 0, 0, "hold"), one, other, match(0, "n0 n1"), match(1, "n0 n1"))


class OrderTest(CheckCase):
    def test_both_ways_of_a_fork_stand_as_ahead(self):
        """The first way moves the one, gives it names and lets it know: the second one does not see that."""
        one = one_function((("n0", "n1"), (), ("fork", "n0", 1, (), 2, ())), ((), (("n1", "copy", (5,)),), ("go", 3, (1,))),
                           ((), (), ("go", 3, (2,))), (("n2",), (("n3", "add", ("n1", "n2")),), ("give", ("n3",))))
        other = one_function((("n0", "n1"), (), ("fork", "n0", 1, (), 2, ())), ((), (), ("give", (6,))),
                             ((), (("n3", "add", ("n1", 2)),), ("give", ("n3",))))
        self.assert_let_by(one, other, match(0, "n0 n1"), match(3, (), [((0, "n1"), 5), ((0, "n2"), 1)]),
                           match(3, "n1", [((0, "n2"), 2)]))
        self.assert_let_by(one, other, match(0, "n0 n1"), match(3, (), [((0, "n1"), 5), ((0, "n2"), 1)], [((0, "n0"), True)]),
                           match(3, "n1", [((0, "n2"), 2)], [((0, "n0"), False)]))
        self.assert_broken((0, 0, 0, "know"), one, other, match(0, "n0 n1"),
                           match(3, (), [((0, "n1"), 5), ((0, "n2"), 1)], [((0, "n0"), True)]),
                           match(3, "n1", [((0, "n2"), 2)], [((0, "n0"), True)]))

    def test_the_other_s_names_stand_as_ahead_too(self):
        one = one_function((("n0",), (), ("fork", "n0", 1, (7,), 2, ())), (("n0",), (), ("give", ("n0",))),
                           ((), (), ("give", ("n0",))))
        self.assert_let_by(one, one, match(0, "n0"), match(1, "n0"), match(2, "n0", knows=[((0, "n0"), False)]))

    def test_args_are_read_as_their_way_is_looked_at(self):
        one = one_function((("n0", "n9"), (), ("fork", "n0", 1, (), 2, ("n9",))), ((), (), ("give", (1,))),
                           (("n1",), (), ("give", (2,))))
        # The first way breaks ahead of the second one's args.
        self.assert_broken((0, 0, 0, "place"), one, one, match(0, "n0"), None, match(2))
        self.assert_broken((0, 0, 0, "name"), one, one, match(0, "n0"), match(1), match(2))
        first = one_function((("n0", "n9"), (), ("fork", "n0", 1, ("n9",), 2, ())), (("n1",), (), ("give", (1,))),
                             ((), (), ("give", (2,))))
        self.assert_broken((0, 0, 0, "name"), first, first, match(0, "n0"), None, None)
        # A way that is not gone is not read.
        decided = one_function((("n0", "n9"), (), ("fork", 1, 1, (), 2, ("n9",))), ((), (), ("give", (1,))),
                               (("n1",), (), ("give", (2,))))
        self.assert_let_by(decided, decided, match(0, "n0"), match(1), None)

    def test_a_plain_number_decides_ahead_of_what_is_known(self):
        """What was known of a thing is of no use where the form is a number."""
        one = one_function((("n0",), (), ("fork", "n0", 1, (), 2, ())),
                           ((), (("n1", "sub", ("n0", "n0")),), ("fork", "n1", 2, (), 3, ())),
                           ((), (), ("give", (1,))), ((), (), ("give", (2,))))
        other = one_function((("n0",), (), ("fork", "n0", 1, (), 2, ())), ((), (), ("give", (2,))), ((), (), ("give", (1,))))
        knows = [((0, "n0"), True), (("sub", (0, "n0"), (0, "n0")), False), (3, True)]
        self.assert_let_by(one, other, match(0, "n0"), match(1, knows=knows), match(2))
        self.assert_broken((0, 0, 0, "know"), one, other, match(0, "n0"), match(1, knows=knows[:2] + [(3, False)]), match(2))
        wrong = [((0, "n0"), True), (("sub", (0, "n0"), (0, "n0")), True)]
        self.assert_broken((0, 0, 0, "know"), one, other, match(0, "n0"), match(1, knows=wrong), match(2))

    def test_nothing_is_looked_at_behind_a_need_that_surely_ends_the_run(self):
        one = one_function((("n0",), (("need", "bad", 0),), ("give", (1,))))
        other = one_function((("n0",), (("need", "bad", 0), TICK, ("n1", "copy", ("n0",))), ("go", 1, ())),
                             ((), (TICK,), ("go", 1, ())))
        self.assert_let_by(one, other, match(0), None)
        sub = one_function((("n0",), (("n1", "sub", ("n0", "n0")), ("need", "bad", "n1"), TICK), ("give", ("n0",))))
        self.assert_let_by(one, sub, match(0, "n0"))
        self.assert_broken((0, 0, 0, "event"), one, one_function((("n0",), (("need", "worse", 0),), ("give", (1,)))), match(0))
        # Known as 0.
        one = one_function((("n0",), (), ("fork", "n0", 1, (), 2, ())), ((), (), ("give", (1,))),
                           ((), (("need", "bad", "n0"),), ("give", (2,))))
        other = one_function((("n0",), (), ("fork", "n0", 1, (), 2, ())), ((), (), ("give", (1,))),
                             ((), (("need", "bad", "n0"), TICK), ("go", 3, ())), ((), (TICK,), ("go", 3, ())))
        self.assert_let_by(one, other, match(0, "n0"), match(1), match(2, "n0", knows=[((0, "n0"), False)]), None)
        self.assert_broken((0, 2, 1, "event"), one, other, match(0, "n0"), match(1), match(2, "n0"), None)

    def test_behind_a_need_its_form_is_known(self):
        one = one_function((("n0",), (("need", "bad", "n0"),), ("fork", "n0", 1, (), 2, ())), ((), (), ("give", (1,))),
                           ((), (), ("give", (2,))))
        other = one_function((("n0",), (("need", "bad", "n0"),), ("give", (1,))))
        self.assert_let_by(one, other, match(0, "n0"))
        knows = [((0, "n0"), True)]
        kept = one_function((("n0",), (("need", "bad", "n0"),), ("go", 1, ())), ((), (), ("give", (1,))))
        self.assert_let_by(kept, kept, match(0, "n0"), match(1, "n0", knows=knows))

    def test_blocks_are_looked_at_from_the_least_one(self):
        """Of two breaks the first one is told: by function, then by block as they are come to, then by row."""
        blocks = ((("n0",), (), ("fork", "n0", 3, (), 1, ())), ((), (TICK,), ("go", 2, ())), ((), (TICK,), ("give", (1,))),
                  ((), (TICK,), ("give", (3,))))
        one = one_function(*blocks)
        own = [match(block, "n0") for block in range(4)]
        self.assert_let_by(one, one, *own)
        # Blocks 3 and 1 are come to from 0; block 2 from 1: looked at are 0, 1, 2, 3.
        other = one_function(*blocks[:2], ((), (TICK,), ("give", (7,))), ((), (TICK,), ("give", (8,))))
        self.assert_broken((0, 2, 1, "give"), one, other, *own)
        other = one_function(*blocks[:3], ((), (TICK,), ("give", (8,))))
        self.assert_broken((0, 3, 1, "give"), one, other, *own)
        other = one_function(blocks[0], ((), (), ("go", 2, ())), *blocks[2:3], ((), (), ("give", (8,))))
        self.assert_broken((0, 1, 0, "place"), one, other, *own)
        # A block that comes to be come to later, but is less, is looked at first.
        swapped = one_function((("n0",), (), ("fork", "n0", 2, (), 3, ())), ((), (TICK,), ("give", (1,))),
                               ((), (TICK,), ("go", 1, ())), ((), (TICK,), ("give", (3,))))
        other = one_function(swapped[0][2][0], ((), (TICK,), ("give", (7,))), swapped[0][2][2], ((), (TICK,), ("give", (8,))))
        self.assert_broken((0, 1, 1, "give"), swapped, other, *own)

    def test_blocks_that_are_not_come_to_are_not_looked_at(self):
        one = one_function((("n0",), (), ("go", 1, ())), ((), (), ("give", (1,))), ((), (), ("give", ("n9",))))
        self.assert_let_by(one, one, match(0), match(1), None)
        self.assert_let_by(one, one, match(0), match(1), match(1, [("n9", 5)]))

    def test_functions_one_after_the_other(self):
        f, g = ("f", "n", (((), (), ("give", (1,))),)), ("g", "n", (((), (), ("give", (1,))),))
        bad = (("f", "n", (((), (), ("give", (2,))),)), ("g", "n", (((), (), ("give", (2,))),)))
        own = ((match(0),), (match(((1, 0),)),))
        self.assert_broken((0, 0, 0, "give"), (f, g), bad, *own)
        self.assert_broken((1, 0, 0, "give"), (f, g), (f, bad[1]), *own)
        self.assert_broken((1, 0, -1, "place"), (f, g), (f, g), own[0], (None,))

    def test_a_name_read_breaks_ahead_of_all_else(self):
        one = one_function((("n0",), (TICK,), ("give", (1,))))
        other = one_function((("n0",), (), ("give", ("n0",))))
        self.assert_broken((0, 0, 0, "name"), one, other, match(0))
        other = one_function((("n0",), (("need", "bad", "n0"),), ("give", (1,))))
        self.assert_broken((0, 0, 0, "name"), one, other, match(0))
        other = one_function((("n0",), (), ("go", 1, ("n0",))), (("n1",), (), ("give", (1,))))
        self.assert_broken((0, 0, 0, "name"), one, other, match(0), None)


class LongTest(CheckCase):
    def test_long_blocks_and_ways(self):
        rows = tuple((f"n{k + 1}", "add", (f"n{k}", f"n{k // 2}")) for k in range(1000))
        one = one_function((("n0",), rows, ("give", ("n1000",))))
        blocks = [(("n0",), (), ("go", 1, ()))]
        for k in range(500):
            end = ("go", k + 2, ()) if k < 499 else ("give", ("n1000",))
            blocks.append(((), (rows[2 * k], rows[2 * k + 1]), end))
        self.assertTrue(checked(one_function(*blocks), one, ((match(0, "n0"),),)))

    def test_many_calls_entered(self):
        deep = (("f", "", ((("n0",), (), ("call", 0, ("n0",), 1, ())), ((), (), ("give", ())))),)
        other = (("f", "", ((("n0",), (TICK,) * 1200, ("go", 1, ())), ((), (TICK,), ("go", 1, ())))),)
        with self.assertRaises(NoPaper) as caught:
            checked(deep, other, ((match(0), match(0)),))
        self.assertEqual(caught.exception.word, "place")


class DrawnTest(CheckCase):
    """Point 33: whatever is let by runs alike; and the second checker tells the same breaks."""

    def pairs(self, seed):
        """Pairs of middles, with a paper that is let by or may be."""
        maker = RightMaker(seed, names=4 + seed % 5)
        one = maker.middle()
        own, other, paper = entered(one, maker.chance, often=0), *entered(one, maker.chance)
        yield maker, one, one, own[1], True
        yield maker, one, other, paper, True
        for k in range(4):
            bent = bent_middle(one, maker.chance)
            yield maker, one, bent, own[1], False
            yield maker, bent, one, own[1], False

    def test_right_papers_are_let_by(self):
        for seed in range(100):
            for maker, one, other, paper, right in self.pairs(seed):
                if right:
                    self.assertIsNone(self.told(one, other, paper))

    def test_bent_papers(self):
        words = {}
        for seed in range(90):
            for maker, one, other, paper, right in self.pairs(seed):
                for times in (0, 1, 1, 2, 4):
                    bent = Bender(maker.chance, one, other).bent(paper, times)
                    for k in range(times):
                        bent = Enricher(maker.chance, one).enriched(bent)
                    words_told = self.asked(maker, one, other, bent)
                    words[words_told] = words.get(words_told, 0) + 1
        for word in (None, "place", "open", "event", "give", "name", "stand", "hold", "know"):
            self.assertGreater(words.get(word, 0), 20, words)

    def asked(self, maker, one, other, paper):
        try:
            shape_asked(one, other, paper)
        except NoPaper as error:
            return error.word
        told = self.told(one, other, paper)
        if told is None:
            self.assert_alike(maker, one, other)
        return None if told is None else told[3]

    def assert_alike(self, maker, one, other):
        for function in range(len(one)):
            for bound in (0, 1, 2, 5, 11):
                values = maker.values(one, function)
                self.assertEqual(second_run(one, function, values, bound), second_run(other, function, values, bound))
                self.assertEqual(run(one, function, values, bound), run(other, function, values, bound))


if __name__ == "__main__":
    unittest.main()
