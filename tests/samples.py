"""Programs and slow, plain oracles that several tests use."""

import itertools

from registerways.programs import Program

EXAMPLE = (
    "block a b\ngo 1 a b\nblock x y\nt = less x 100\nif t 2 else 3\n"
    "block\nz = add x y\ngo 1 y x\nblock\ngive x"
)


def end_to(targets):
    """An end that jumps to none, one or two blocks without parameters."""
    if len(targets) == 0:
        return ("give", ())
    if len(targets) == 1:
        return ("go", targets[0], ())
    return ("if", 1, targets[0], (), targets[1], ())


def bare_blocks(targets_of_blocks):
    """Blocks that do nothing but jump."""
    return tuple(((), (), end_to(targets)) for targets in targets_of_blocks)


def graph(*targets_of_blocks):
    """The program of blocks that do nothing but jump."""
    return Program(bare_blocks(targets_of_blocks))


def simple_paths(targets_of_blocks, lower):
    """All paths of blocks from the entry to a block in which no block stands twice."""
    found = []

    def walk(path):
        if path[-1] == lower:
            found.append(tuple(path))
        for target in set(targets_of_blocks[path[-1]]):
            if target not in path:
                walk(path + [target])

    walk([0])
    return found


def reached(targets_of_blocks):
    """The set of the blocks to which a path from the entry leads."""
    return {block for block in range(len(targets_of_blocks)) if simple_paths(targets_of_blocks, block)}


def all_graphs(size):
    """The targets of all programs with so many blocks, an entry to which nothing jumps, and each block reached."""
    blocks = range(1, size)
    ends = [()] + [(block,) for block in blocks] + list(itertools.product(blocks, repeat=2))
    for targets_of_blocks in itertools.product(ends, repeat=size):
        if len(reached(targets_of_blocks)) == size:
            yield targets_of_blocks


# Graphs with loops, two ways to one block, both jumps to one block, and
# blocks that are not numbered in the order in which they are reached.
GRAPHS = (
    ((),),
    ((1,), ()),
    ((1,), (1,)),
    ((1, 1), ()),
    ((1, 2), (3,), (3,), ()),
    ((3, 2), (), (1,), (1,)),
    ((5,), (4, 3), (), (1, 2), (1,), (1,)),
    ((4,), (), (1, 3), (2, 5), (3, 3), (5, 1)),
    ((2, 6), (5,), (4,), (), (3, 1), (3, 4), (1,)),
    ((7, 3), (1, 2), (7,), (6, 1), (4,), (4, 8), (5, 5), (3, 6), (2, 5)),
)
