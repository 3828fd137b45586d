"""Point 49: boxed middles coded."""

import copy
import unittest

from codes import as_code_tells, bent_code, second_right_code
from dealers import dealt
from looping import LoopMaker
from making import TICK, MadeCase, drawn, drawn_once, full_middle, one_function
from papering import Bender
from promises import second_boxed, second_small
from second_checker import second_checked

from samepaper.boxing import boxed
from samepaper.checking import checked
from samepaper.code import right_code
from samepaper.coding import coded
from samepaper.engine import run_code
from samepaper.errors import NoCode, NoPaper
from samepaper.middle import right_middle
from samepaper.once import once
from samepaper.reread import reread
from samepaper.running import run


def texts_in(thing):
    if isinstance(thing, tuple):
        return [text for inner in thing for text in texts_in(inner)]
    return [thing] if isinstance(thing, str) else []


def boxes_in(code):
    """All boxes that the steps of code have."""
    return {text for function in code for step in function[4] for text in texts_in(step[1:]) if text[1:].isdigit()}


class CodedCase(MadeCase):
    def coded(self, middle, counts, values, bounds=(0, 1, 2, 5, 12)):
        """Code of a boxed middle and its paper, asked for all that is promised; values tells some for a function's number."""
        self.assertIs(right_middle(middle), True)
        self.assertTrue(second_boxed(middle, *counts))
        kept = copy.deepcopy(middle)
        told = coded(middle, *counts)
        self.assertEqual(middle, kept)
        self.assertIs(type(told), tuple)
        code, paper = told
        self.assertIs(right_code(code), True)
        self.assertLessEqual(boxes_in(code), {f"n{k}" for k in range(counts[0])} | {f"r{k}" for k in range(counts[1])})
        other = reread(code)
        self.assertIs(right_middle(other), True)
        self.assertEqual(as_code_tells(other), as_code_tells(middle))
        self.assertEqual([function[:3] for function in code], as_code_tells(middle))
        self.assert_let_by(middle, other, paper)
        for number in range(len(middle)):
            for bound in bounds:
                given = values(number)
                outcome = run(middle, number, given, bound)
                self.assertEqual(run_code(code, number, given, bound), outcome)
                self.assertEqual(run(other, number, given, bound), outcome)
        return code, paper

    def coded_function(self, *blocks, values=((),), counts=(3, 1), results="n"):
        for told in values:
            code, paper = self.coded(one_function(*blocks, results=results), counts, lambda number: told)
        return code[0]


class CodedTest(CodedCase):
    def test_one_block(self):
        code = self.coded_function((("n9", "r50"), (("n0", "copy", ("n9",)), ("r0", "keep", ("r50",)), ("n1", "at", ("r0", "n0")), ("n10", "copy", ("n1",)), ("n2", "copy", (5,)),
                                    ("n0", "copy", ("n2",))), ("give", ("n10",))), values=((1, (4, 5)), (2, ())))
        self.assertEqual(code, ("f", "nr", "n", 3, (("load", "n0", 0), ("load", "r0", 1), ("at", "n1", ("r0", "n0")), ("store", 2, "n1"), ("copy", "n2", (5,)), ("copy", "n0", ("n2",)),
                                                    ("give", (("n", 2),)))))

    def test_go_and_fork(self):
        blocks = ((("n9",), (("n0", "copy", ("n9",)),), ("fork", "n0", 2, (), 1, ())), ((), (("n0", "copy", (5,)), ("n8", "copy", ("n0",))), ("go", 3, ())),
                  ((), (("n0", "copy", (6,)), ("n8", "copy", ("n0",))), ("go", 3, ())), ((), (), ("give", ("n8",))))
        code = self.coded_function(*blocks, values=((0,), (1,)))
        # No more jumps than there have to be.
        self.assertEqual(sum(step[0] == "jump" for step in code[4]), 1)
        # Both ways to one block; a plain number.
        self.coded_function((("n9",), (("n0", "copy", ("n9",)),), ("fork", "n0", 1, (), 1, ())), ((), (), ("give", ("n9",))), values=((0,), (1,)))
        for number in (0, 3):
            self.coded_function((("n9",), (), ("fork", number, 1, (), 2, ())), ((), (), ("give", ("n9",))), ((), (TICK,), ("give", (2,))), values=((7,),))

    def test_rings(self):
        self.coded_function((("n9",), (), ("go", 1, ())), ((), (TICK, ("n0", "copy", ("n9",)), ("n1", "sub", ("n0", 1)), ("n9", "copy", ("n1",))), ("fork", "n1", 1, (), 2, ())),
                            ((), (), ("give", ("n9",))), values=((3,), (1,), (0,)))
        # A block that leads to itself, and empty ones.
        self.coded_function(((), (), ("go", 2, ())), ((), (TICK,), ("go", 1, ())), ((), (), ("go", 3, ())), ((), (), ("go", 1, ())))

    def test_empty_blocks(self):
        """They begin where others do; a first one that is empty, too."""
        self.coded_function((("n9",), (), ("go", 3, ())), ((), (), ("give", ("n9",))), ((), (), ("go", 1, ())), ((), (), ("go", 2, ())), values=((3,),))
        self.coded_function((("n9",), (), ("go", 1, ())), ((), (TICK, ("n0", "copy", ("n9",))), ("fork", "n0", 2, (), 3, ())), ((), (), ("go", 1, ())), ((), (), ("give", (1,))),
                            values=((0,), (1,)))
        self.coded_function((("n9",), (("n0", "copy", ("n9",)),), ("fork", "n0", 1, (), 2, ())), ((), (), ("go", 3, ())), ((), (), ("go", 3, ())), ((), (), ("give", ("n9",))),
                            values=((0,), (1,)))

    def test_calls(self):
        g = ("g", "nr", ((("n5", "r6"), (("n0", "copy", ("n5",)), ("n1", "add", ("n0", 1))), ("give", ("n1", "r6"))),))
        h = ("h", "", (((), (), ("give", ())),))
        f = ("f", "nr", (
            (("n9", "r9"), (("n0", "copy", ("n9",)), ("r0", "keep", ("r9",))), ("call", 1, ("n0", "r0"), 3, ())),
            ((), (("n0", "copy", ("n20",)),), ("fork", "n0", 2, (), 4, ())),
            ((), (), ("call", 1, (7, "r20"), 3, ())),
            (("n20", "r20"), (), ("call", 2, (), 1, ())),
            ((), (), ("give", ("n20", "r20")))))
        for value in (0, -1, 5):
            self.coded((f, g, h), (3, 1), lambda number: ((value, (1,)), (value, (2,)), ())[number])

    def test_waiting_blocks(self):
        """Shared by calls, empty ones with the same params, ones whose params nobody reads, a function's own params."""
        g = ("g", "n", ((("n5",), (), ("give", ("n5",))),))
        for last in (("give", ("n20",)), ("give", (3,)), ("give", ("n9",))):
            f = ("f", "n", (
                (("n9",), (("n0", "copy", ("n9",)),), ("fork", "n0", 1, (), 2, ())), ((), (), ("call", 1, (4,), 4, ())), ((), (), ("call", 1, (6,), 5, ())),
                ((), (), last), (("n20",), (), ("go", 3, ())), (("n20",), (), ("go", 3, ()))))
            for value in (0, 1):
                self.coded((f, g), (3, 1), lambda number: (value,))
        f = ("f", "n", ((("n9",), (), ("call", 1, ("n9",), 1, ())), (("n9",), (("n0", "copy", ("n9",)),), ("fork", "n0", 2, (), 3, ())),
                        ((), (("n0", "copy", ("n9",)), ("n0", "sub", ("n0", 1))), ("call", 1, ("n0",), 1, ())), ((), (), ("give", ("n9",)))))
        for value in (0, 1, 3):
            self.coded((f, g), (3, 1), lambda number: (value,))

    def test_blocks_that_are_not_come_to(self):
        code = self.coded_function((("n9",), (), ("go", 2, ())), ((), (("n0", "copy", ("n77",)),), ("go", 2, ())), ((), (), ("give", ("n9",))), (("n55",), (), ("give", (1,))), values=((3,),))
        self.assertEqual(len(code[4]), 1)

    def test_names_of_cells(self):
        """Any names: those at the bounds, n5 next to r5, cells that would be boxes with more of these."""
        self.coded_function((("n99999", "r99999", "n5", "r5", "n3", "r1"), (("n0", "copy", ("n99999",)), ("n1", "copy", ("n5",)), ("n2", "add", ("n0", "n1")), ("n4", "copy", ("n2",)),
                             ("r0", "keep", ("r5",)), ("r99998", "keep", ("r0",))), ("give", ("n4", "r99998", "n3", "r1"))), values=((1, (2,), 3, (4,), 5, (6,)),), results="nrnr")

    def test_places_serve_again(self):
        """Cells that live in one block alone share places with those of others."""
        blocks = [(("n9",), (("n0", "copy", ("n9",)),), ("go", 1, ()))]
        for b in range(1, 300):
            rows = (("n0", "copy", ("n9",)), (f"n{100 * b}", "copy", ("n0",)), (f"n{100 * b + 1}", "copy", ("n0",)), ("n1", "copy", (f"n{100 * b}",)), ("n2", "copy", (f"n{100 * b + 1}",)))
            blocks.append(((), rows, ("go", b + 1, ()) if b < 299 else ("give", ("n2",))))
        code = self.coded_function(*blocks, values=((3,),))
        self.assertEqual(code[3], 3)


class CountsTest(CodedCase):
    def test_long_blocks_one_behind_the_other(self):
        """Six of 1,200 rows: read again as one, they would be too many."""
        blocks = [((("n9",) if b == 0 else ()), (("n0", "copy", ("n9",)),) + (("n0", "add", ("n0", 1)),) * 1198 + (("n9", "copy", ("n0",)),), ("go", b + 1, ())) for b in range(5)]
        code = self.coded_function(*blocks, ((), (TICK,) * 1200, ("give", ("n9",))), values=((3,),))
        self.assertEqual(sum(step[0] == "jump" for step in code[4]), 5)

    def test_six_hundred_blocks(self):
        """Forks and calls back and forth, so that no two blocks are read again as one."""
        g = ("g", "n", ((("n5",), (), ("give", ("n5",))),))
        blocks = [(("n9",), (("n0", "copy", ("n9",)),), ("fork", "n0", 1, (), 2, ()))]
        for b in range(1, 598):
            rows = (TICK, ("n0", "copy", ("n9",)), ("n1", "sub", ("n0", 1)), ("n9", "copy", ("n1",)))
            blocks.append(((), rows, ("fork", "n1", b + 1, (), (7 * b) % 598 + 1, ())))
        blocks[3] = ((), (), ("call", 1, ("n9",), 599, ()))
        blocks[4] = ((), (), ("fork", 1, 5, (), 3, ()))
        middle = (("f", "n", (*blocks, ((), (), ("give", ("n9",))), (("n9",), (), ("go", 4, ())))), g)
        code, paper = self.coded(middle, (3, 1), lambda number: (700,), bounds=(0, 4, 30, 599, 600, 601))
        self.assertGreater(len(reread(code)[0][2]), 590)

    def test_told_counts(self):
        values = tuple(range(58)) + ((1, 2), (3,))
        first = once(full_middle())[0]
        for counts in ((3, 1), (8, 4)):
            code, paper = coded(boxed(first, *counts)[0], *counts)
            self.assertIs(right_code(code), True)
            self.assertIs(checked(boxed(first, *counts)[0], reread(code), paper), True)
            for bound in (0, 7):
                self.assertEqual(run_code(code, 0, values, bound), run(first, 0, values, bound))


class DrawnTest(CodedCase):
    def drawn_boxed(self, seed):
        """A maker, a small middle, and it boxed by one of two dealers with drawn counts."""
        maker, middle = drawn_once(seed) if seed % 3 else drawn(seed)
        counts = (maker.chance.randint(3, 8), maker.chance.randint(1, 4))
        by_other = seed % 4 or seed % 3 == 0
        return maker, middle, counts, dealt(middle, counts, maker.chance) if by_other else boxed(middle, *counts)[0]

    def test_by_chance(self):
        for seed in range(150):
            maker, middle, counts, handed = self.drawn_boxed(seed)
            code, paper = self.coded(handed, counts, lambda number: maker.values(middle, number))
            self.assertIsNone(second_right_code(code))
            for number in range(len(middle)):
                values = maker.values(middle, number)
                self.assertEqual(run_code(code, number, values, 9), run(middle, number, values, 9))

    def test_loops_by_chance(self):
        for seed in range(40):
            maker = LoopMaker(seed, deep=1 + seed % 3, rows=3)
            middle = maker.middle()
            if second_small(middle):
                for handed in (boxed(middle, 3, 1)[0], dealt(middle, (3, 1), maker.chance)):
                    self.coded(handed, (3, 1), lambda number: maker.values()[:3 if number == 0 else 1], (0, 3, 9))

    def let_by(self, one, code, paper):
        """Whether right_code and checked let by code and a paper."""
        try:
            right_code(code)
            other = reread(code)
            right_middle(other)
            checked(one, other, paper)
        except (NoCode, NoPaper) as error:
            return getattr(error, "word", "code")
        self.assertIsNone(second_checked(one, other, paper))
        return None

    def test_bent_code_and_papers(self):
        """Where right_code and checked let them by, the machine tells what the middle tells."""
        told = {}
        for seed in range(120):
            maker, middle, counts, handed = self.drawn_boxed(seed)
            code, paper = coded(handed, *counts)
            for k in range(12):
                bent, told_by = code, paper
                if k % 3:
                    bent = bent_code(code, maker.chance)
                if k % 3 != 1:
                    told_by = Bender(maker.chance, handed, reread(code)).bent(paper, 1 + k % 2)
                word = self.let_by(handed, bent, told_by)
                told[word] = told.get(word, 0) + 1
                if word is None:
                    for number in range(len(handed)):
                        for bound in (0, 1, 2, 5):
                            values = maker.values(middle, number)
                            self.assertEqual(run_code(bent, number, values, bound), run(handed, number, values, bound))
        for word in (None, "code", "shape", "place", "event", "name", "hold"):
            self.assertGreater(told.get(word, 0), 5, told)


if __name__ == "__main__":
    unittest.main()
