"""The points of blocks, the steps between them, and at which points variables are live and held."""

from registerways.blocks import jumps, operands_of_end, operands_of_instruction


def all_points(blocks):
    """All points, by blocks and ascending in each block."""
    found = []
    for number, (_, instructions, _) in enumerate(blocks):
        found.extend([(number, at) for at in range(len(instructions) + 1)])
    return tuple(found)


def points_behind(blocks, point):
    """The points to which steps lead from a point."""
    block, at = point
    _, instructions, end = blocks[block]
    if at < len(instructions):
        return ((block, at + 1),)
    return tuple([(target, 0) for target, _ in jumps(end)])


def operands_used(blocks, point):
    """The operands that are used by the steps from a point."""
    block, at = point
    _, instructions, end = blocks[block]
    if at < len(instructions):
        return operands_of_instruction(instructions[at])
    return operands_of_end(end)


def points_before(blocks):
    """A dict from each point to the list of the points from which steps lead to it."""
    before = {point: [] for point in all_points(blocks)}
    for point in all_points(blocks):
        for target in points_behind(blocks, point):
            before[target].append(point)
    return before


def points_of_use(blocks):
    """A dict from each variable that is used to the list of the points from which a step uses it."""
    uses = {}
    for point in all_points(blocks):
        for operand in operands_used(blocks, point):
            if isinstance(operand, str):
                uses.setdefault(operand, []).append(point)
    return uses


def live_points(place, uses, before):
    """The points at which a variable is live.

    It is assigned at the point place, and used by steps from the points uses;
    before is what points_before returns.
    """
    found = {point: True for point in uses}
    waiting = list(found)
    while waiting:
        point = waiting.pop()
        # A path may begin where the variable is assigned, but not lead there.
        if point != place:
            for source in before[point]:
                if source not in found:
                    found[source] = True
                    waiting.append(source)
    return tuple(found)


def lifetimes(blocks, places, order):
    """Two dicts from each point to the tuple of the variables that are live at it, and held at it, in the order."""
    before = points_before(blocks)
    uses = points_of_use(blocks)
    lives = {point: [] for point in before}
    holds = {point: [] for point in before}
    for name in order:
        found = live_points(places[name], uses.get(name, []), before)
        for point in found:
            lives[point].append(name)
            holds[point].append(name)
        if places[name] not in found:
            holds[places[name]].append(name)
    return (tuples_of(lives), tuples_of(holds))


def tuples_of(table):
    """The same dict with a tuple in the place of each list."""
    return {point: tuple(names) for point, names in table.items()}


def conflicts_before(places, order, holds):
    """A dict from each variable to the tuple of the variables before it in the order that conflict with it."""
    earlier = {}
    for name in order:
        # Those that come before it and conflict with it somewhere are held
        # where it is assigned, too: no other point needs to be looked at.
        held = holds[places[name]]
        earlier[name] = held[:held.index(name)]
    return earlier


def partners_of(order, earlier):
    """A dict from each variable to the tuple of all variables that conflict with it, in the order."""
    partners = {name: [] for name in order}
    for name in order:
        partners[name].extend(earlier[name])
        for other in earlier[name]:
            partners[other].append(name)
    return tuples_of(partners)
