"""Which blocks of a program lie on all paths to which others."""

from registerways.graphs import directly_below, dominators, path_to, ways


def dominates(program, upper, lower):
    """Whether every path from the beginning of the program to the block lower contains the block upper."""
    return lower not in ways(program.blocks, upper)


def below(program):
    """For each block the block that it is directly below, and None for the entry."""
    return directly_below(dominators(program.blocks))


def avoiding(program, upper, lower):
    """A shortest tuple of blocks from the entry to the block lower without the block upper.

    None if upper dominates lower.
    """
    before = ways(program.blocks, upper)
    if lower not in before:
        return None
    return path_to(before, lower)
