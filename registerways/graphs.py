"""The blocks of a program as a graph: which ways lead through it, which blocks lie below which."""

from registerways.blocks import jumps


def ways(blocks, left_out):
    """The blocks to which paths from the entry lead that do not contain the block left_out.

    It is a dict from each of these blocks to the one before it on a shortest
    such path, and to None for the entry. If left_out is None, no block is left out.
    """
    if left_out == 0:
        return {}
    before = {0: None}
    level = [0]
    while level:
        following = []
        for block in level:
            for target, _ in jumps(blocks[block][2]):
                if target != left_out and target not in before:
                    before[target] = block
                    following.append(target)
        level = following
    return before


def path_to(before, last):
    """The tuple that ends with the given one, in which before tells of each the one before it, or None."""
    backwards = []
    step = last
    while step is not None:
        backwards.append(step)
        step = before[step]
    return tuple(backwards[::-1])


def dominators(blocks):
    """For each block the ascending tuple of the blocks that dominate it; each must be reached from the entry."""
    numbers = list(range(len(blocks)))
    ways_without = [ways(blocks, upper) for upper in numbers]
    above = []
    for block in numbers:
        above.append(tuple([upper for upper in numbers if block not in ways_without[upper]]))
    return tuple(above)


def directly_below(above):
    """For each block the block that it is directly below, and None for the entry.

    What dominators returns is passed.
    """
    return tuple([parent(above, block) for block in range(len(above))])


def parent(above, block):
    """The block that a block is directly below, or None for the entry."""
    # Of two blocks that dominate a third one, one dominates the other. So the
    # wanted one is dominated by all that dominate the block, but for itself.
    for upper in above[block]:
        if len(above[upper]) == len(above[block]) - 1:
            return upper
    return None


def from_the_top(parents):
    """The numbers of all blocks, behind each one at once those below it, in ascending order.

    What directly_below returns is passed.
    """
    numbers = []
    waiting = [0]
    while waiting:
        block = waiting.pop()
        numbers.append(block)
        # The block that waits at the end is taken next, so the least one comes last.
        for child in reversed(range(len(parents))):
            if parents[child] == block:
                waiting.append(child)
    return tuple(numbers)
