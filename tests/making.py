"""For tests of makers: what all outcomes promise, and small middles, drawn ones and ones at the told counts."""

import copy
import unittest

from middles import second_right, second_run
from papering import RightMaker
from promises import all_come_to, faces, second_once, second_small
from second_checker import second_checked
from sources import Maker

from samepaper.checking import checked
from samepaper.laying import laid
from samepaper.middle import right_middle
from samepaper.once import once
from samepaper.papers import shape_asked
from samepaper.reading import read
from samepaper.running import run

TICK = ("tick",)


def one_function(*blocks, results="n"):
    return (("f", results, blocks),)


class MadeCase(unittest.TestCase):
    def assert_let_by(self, one, other, paper):
        self.assertIs(shape_asked(one, other, paper), True)
        self.assertIsNone(second_checked(one, other, paper))
        self.assertIs(checked(one, other, paper), True)

    def made(self, maker, middle, come_to=True, once=True, small=True):
        """A maker's outcome and paper, asked for all that each of them promises."""
        kept = copy.deepcopy(middle)
        told = maker(middle)
        self.assertEqual(middle, kept)
        self.assertIs(type(told), tuple)
        outcome, paper = told
        self.assertIs(right_middle(outcome), True)
        self.assertIsNone(second_right(outcome) if few_names(outcome) else None)
        self.assertTrue(second_once(outcome) or not once)
        self.assertTrue(second_small(outcome) or not small)
        self.assertEqual(faces(outcome), faces(middle))
        self.assertTrue(all_come_to(outcome) or not come_to)
        self.assert_let_by(middle, outcome, paper)
        return outcome, paper

    def assert_alike(self, one, other, values, bounds=(0, 1, 2, 5, 12)):
        """Both middles run alike, values a function that tells some for a function's number."""
        for number in range(len(one)):
            for bound in bounds:
                told = values(number)
                outcome = run(one, number, told, bound)
                self.assertEqual(run(other, number, told, bound), outcome)
                self.assertEqual(second_run(other, number, told, bound), outcome)


def few_names(middle):
    """Whether the second asker of middles knows all names: those of one or two figures."""
    names = {name for word, results, blocks in middle for params, rows, end in blocks
             for name in [*params, *[row[0] for row in rows if len(row) == 3 and row[0] != "need"]]}
    return all(len(name) < 4 for name in names)


def drawn(seed, **told):
    """A maker of values and a small middle, drawn: by chance, or laid of a source that is."""
    if seed % 4 == 0:
        return RightMaker(seed), laid(read(Maker(seed).source()))
    for further in range(100):
        sort = {"blocks": 3 + seed % 9, "names": 2 + seed % 7, "plain": (0.1, 0.35, 0.6)[seed % 3],
                "again": (0.1, 0.4)[seed % 2], **told}
        maker = RightMaker(seed + 10000 * further, **sort)
        middle = maker.middle()
        if second_small(middle):
            return maker, middle
    raise AssertionError("none is small")


def drawn_once(seed, **told):
    """Likewise, the middle once."""
    maker, middle = drawn(seed, **told)
    return maker, once(middle)[0]


NAMES = tuple(f"n{k}" for k in range(58)) + ("r0", "r1")


def full_rows(block):
    """Sixty rows with 320 operands, which read all of NAMES ahead of giving one, and give many of them again."""
    rows = [("n70", "at", ("r0", f"n{block}")), ("n71", "at", ("r1", 0)), TICK]
    for k in range(30):
        rows.append((("r2", "r0", "r1")[k % 3], "make", tuple(f"n{(8 * k + j + block) % 58}" for j in range(8))))
    for k in range(22):
        rows.append((f"n{(k + block) % 58}", "pick", ("n70", f"n{k}", f"n{(7 * k + 1) % 58}")))
    for k in range(5):
        rows.append((f"n{(k + 30) % 58}", "add", (f"n{k + 3}", "n71")))
    return tuple(rows)


def full_middle():
    """A middle at the told counts: forty blocks of sixty rows with 320 operands, sixty names at each begin."""
    blocks = [(NAMES, full_rows(0), ("go", 1, ()))]
    for b in range(1, 39):
        blocks.append(((), full_rows(b), ("fork", f"n{b}", b + 1, (), 1 + b // 2, ())))
    blocks.append(((), full_rows(39), ("give", ("n5", "r0"))))
    return one_function(*blocks, results="nr")
