"""Which conflicts there are: a program for each set of them without a ring that has no chord."""

from registerways.errors import AssignedTwice, Chordless, NoVariable
from registerways.graphs import path_to
from registerways.programs import Program
from registerways.tuples import in_tuples


def realized(names, pairs):
    """A program whose variables are the names, and in which exactly the pairs conflict.

    Raises AssignedTwice, NoVariable, and Chordless if there is no such program.
    """
    given = in_tuples(names)
    check_names(given)
    partners = partners_in(given, in_tuples(pairs))
    order = put_in_order(given, partners)
    return Program(blocks_of(order, partners))


def check_names(names):
    """Raise AssignedTwice for the first name that was among the names before."""
    for at, name in enumerate(names):
        if name in names[:at]:
            raise AssignedTwice(name)


def partners_in(names, pairs):
    """A dict from each name to the names with which it makes a pair; raises NoVariable for a name that is not there."""
    partners = {name: [] for name in names}
    for pair in pairs:
        for name in pair:
            if name not in partners:
                raise NoVariable(name)
    for one, other in pairs:
        if other not in partners[one]:
            partners[one].append(other)
            partners[other].append(one)
    return partners


def put_in_order(names, partners):
    """The names, so that the partners of each name that come before it are partners of one another."""
    remaining = list(names)
    taken = []
    while remaining:
        free = [name for name in remaining if can_be_taken(name, remaining, partners)]
        if not free:
            raise Chordless(ring_among(remaining, partners))
        taken.append(free[0])
        remaining.remove(free[0])
    return taken[::-1]


def can_be_taken(name, remaining, partners):
    """Whether the remaining partners of a name are all partners of one another."""
    around = [other for other in partners[name] if other in remaining]
    return all([one == other or one in partners[other] for one in around for other in around])


def ring_among(names, partners):
    """A ring without a chord among names of which none can be taken."""
    for middle in names:
        around = [other for other in partners[middle] if other in names]
        for left in around:
            for right in around:
                if left != right and right not in partners[left]:
                    free = [name for name in names if name != middle and name not in around]
                    path = shortest_path(left, right, [*free, right], partners)
                    if path is not None:
                        return (middle, *path)
    return None


def shortest_path(first, last, names, partners):
    """A shortest path from a name to another one over the given names, or None."""
    before = {first: None}
    level = [first]
    while level:
        following = []
        for name in level:
            for other in partners[name]:
                if other in names and other not in before:
                    before[other] = name
                    following.append(other)
        level = following
    if last not in before:
        return None
    return path_to(before, last)


def blocks_of(order, partners):
    """The blocks of a program: an entry that assigns nothing, one block for each name, and some that only jump."""
    bodies = [[]]
    below = [[]]
    for at, name in enumerate(order):
        known = [other for other in order[:at] if other in partners[name]]
        bodies.append([(name, "add", 0, 0)] + [("tell", other) for other in known])
        below.append([])
        upper = order.index(known[-1]) + 1 if known else 0
        below[upper].append(at + 1)
    targets = at_most_two(below)
    while len(bodies) < len(targets):
        bodies.append([])
    return [((), body, end_to(blocks)) for body, blocks in zip(bodies, targets)]


def at_most_two(below):
    """For each block those to which it jumps, with more blocks behind the others so that nowhere are more than two."""
    targets = []
    waiting = list(below)
    while len(targets) < len(waiting):
        blocks = waiting[len(targets)]
        if len(blocks) > 2:
            waiting.append(blocks[1:])
            blocks = [blocks[0], len(waiting) - 1]
        targets.append(blocks)
    return targets


def end_to(blocks):
    """An end that jumps to the given blocks, which are at most two."""
    if not blocks:
        return ("give", ())
    if len(blocks) == 1:
        return ("go", blocks[0], ())
    return ("if", 1, blocks[0], (), blocks[1], ())
