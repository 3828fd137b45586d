"""The loops of a function."""

from samepaper.given import come_to
from samepaper.shapes import targets_of


def come_to_without(blocks, head):
    """The blocks that are come to by some way that does not go through this one."""
    seen = {0: True}
    ahead = [0]
    while ahead:
        block = ahead.pop()
        for target in targets_of(blocks[block][2]):
            if target != head and target not in seen:
                seen[target] = True
                ahead.append(target)
    return seen


def loop_of(head, tails, sources):
    """A head's loop: itself, and the blocks from which one of its tails is come to without going through it."""
    loop = {head: True}
    ahead = list(tails)
    while ahead:
        block = ahead.pop()
        if block not in loop:
            loop[block] = True
            ahead.extend(sources[block])
    return loop


def loops_of(function):
    """For each head of a loop the blocks of the loop, as keys."""
    blocks = function[2]
    reached = come_to(function)
    sources = {block: [] for block in reached}
    for block in reached:
        for target in targets_of(blocks[block][2]):
            sources[target].append(block)
    loops = {}
    for head in reached[1:]:
        others = come_to_without(blocks, head)
        tails = [block for block in sources[head] if block not in others]
        if tails:
            loops[head] = loop_of(head, tails, sources)
    return loops
