"""The chain: a source's text through all makers, to code."""

from samepaper.bare import bare
from samepaper.boxing import boxed
from samepaper.coding import coded
from samepaper.folding import folded
from samepaper.in_place import in_place
from samepaper.joining import joined, own_paper
from samepaper.kinds import kinded
from samepaper.laying import laid
from samepaper.moving import moved_out
from samepaper.once import once
from samepaper.reading import read
from samepaper.reread import reread
from samepaper.sharing import shared


def built(text, numbers, rows):
    """The tree of a right source's text, the steps from it laid to the code read again, and the code."""
    tree = read(text)
    kinded(tree)
    steps = [(laid(tree), None)]
    for maker in (in_place, once, folded, shared, moved_out, bare):
        steps.append(maker(steps[-1][0]))
    steps.append(boxed(steps[-1][0], numbers, rows))
    code, paper = coded(steps[-1][0], numbers, rows)
    steps.append((reread(code), paper))
    return tree, steps, code


def borne(steps):
    """The papers of steps laid end to end: one for the first and the last middle, or None."""
    first = steps[0][0]
    paper = own_paper(first)
    for at, (middle, later) in enumerate(steps[1:]):
        paper = later if at == 0 else joined(first, paper, later)
        if paper is None:
            return None
    return paper
