"""How the variables of a program are merged, step by step, until all that are left conflict with one another.

A variable and those before it that conflict with it make a set of variables
that all conflict with one another. These sets lie in a tree: the set of a
variable lies below that of the last one before it that conflicts with it, and
has nothing in common with what lies elsewhere but what is also in this one.
"""


def merges(program):
    """The merges of a program with variables, one after the other, and the list of the variables that are left at last.

    A merge is a tuple (still, pairs, others). still, the first ones of pairs
    and others are a set of variables that all conflict with one another, and
    those of still belong to the set above it, too. Of each pair, the first
    variable is left out from then on and follows the second one, which is in the
    set above. From then on the variables of others belong to that set, too.
    """
    order = program.order
    sets = {name: list(program.earlier[name]) + [name] for name in order}
    parts = []
    # From the end, so that nothing is left below the set that is merged.
    for at in range(len(order) - 1, 0, -1):
        lower = sets[order[at]]
        upper = sets[name_above(program, at)]
        part = merge_of(lower, upper)
        _, pairs, others = part
        upper.extend(others)
        if pairs:
            parts.append(part)
    return (parts, sets[order[0]])


def name_above(program, at):
    """The variable below whose set that of the variable number at in the order lies."""
    before = program.earlier[program.order[at]]
    # A set that has nothing in common with those before it may lie below any of them.
    return before[-1] if before else program.order[at - 1]


def merge_of(lower, upper):
    """The merge of a set into the set above it."""
    still = [name for name in lower if name in upper]
    alone = [name for name in lower if name not in upper]
    free = [name for name in upper if name not in lower]
    pairs = list(zip(alone, free))
    return (still, pairs, alone[len(pairs):])
