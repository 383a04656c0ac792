"""Programs: blocks with jumps between them, in which each variable is assigned at one place."""

from registerways.blocks import assigned, jumps, operands_of_end, operands_of_instruction
from registerways.errors import AssignedTwice, NoBlock, NotAssigned, NotReached, WrongCount
from registerways.graphs import directly_below, dominators, from_the_top, ways
from registerways.lifetimes import conflicts_before, lifetimes, partners_of
from registerways.tuples import in_tuples


class Program:
    """A program of one or more blocks (parameters, instructions, end); block 0 is the entry.

    Besides the blocks it keeps what other modules ask for again and again:
    places, a dict from each variable to the point at which it is assigned;
    lives and holds, dicts from each point to the variables that are live and
    held there; partners, a dict from each variable to those that conflict with
    it, and earlier, one to those of them that come before it. They are not
    changed once the program is made.
    """

    def __init__(self, blocks):
        checked = in_tuples(blocks)
        places = assignments(checked)
        check_jumps(checked)
        check_arguments(checked)
        check_reached(checked)
        above = dominators(checked)
        check_uses(checked, places, above)
        order = variables(checked, above)
        lives, holds = lifetimes(checked, places, order)
        self.blocks = checked
        self.places = places
        self.lives = lives
        self.holds = holds
        self.earlier = conflicts_before(places, order, holds)
        self.partners = partners_of(order, self.earlier)
        self._order = order

    @property
    def order(self):
        """The tuple of the variables: the entry's first, behind those of each block those of the blocks below it."""
        return self._order

    def __len__(self):
        return len(self._order)

    def __contains__(self, name):
        return name in self.places


def assignments(blocks):
    """A dict from each variable to the point (block, j) at which it is assigned."""
    places = {}
    for number, block in enumerate(blocks):
        for name, at in assigned(block):
            if name in places:
                raise AssignedTwice(name)
            places[name] = (number, at)
    return places


def check_jumps(blocks):
    """Raise NoBlock for the first jump to the entry or to no block."""
    for _, _, end in blocks:
        for target, _ in jumps(end):
            if target < 1 or target >= len(blocks):
                raise NoBlock(target)


def check_arguments(blocks):
    """Raise WrongCount for the first jump that passes more or fewer arguments than there are parameters."""
    for _, _, end in blocks:
        for target, arguments in jumps(end):
            parameters, _, _ = blocks[target]
            if len(arguments) != len(parameters):
                raise WrongCount(target)


def check_reached(blocks):
    """Raise NotReached for the least block to which no path leads."""
    before = ways(blocks, None)
    for number in range(len(blocks)):
        if number not in before:
            raise NotReached(number)


def check_uses(blocks, places, above):
    """Raise NotAssigned for the first use of a name that is not preceded by its assignment."""
    for number, (_, instructions, end) in enumerate(blocks):
        for at, instruction in enumerate(instructions):
            check_operands(operands_of_instruction(instruction), (number, at), places, above)
        check_operands(operands_of_end(end), (number, len(instructions)), places, above)


def check_operands(operands, point, places, above):
    """Raise NotAssigned for the first name among operands, used in a step from a point, that is not assigned before."""
    for operand in operands:
        if isinstance(operand, str):
            if operand not in places or not precedes(places[operand], point, above):
                raise NotAssigned(operand)


def precedes(place, point, above):
    """Whether what is assigned at a place is assigned before each step from a point."""
    home, since = place
    block, at = point
    if home == block:
        return since <= at
    return home in above[block]


def variables(blocks, above):
    """The tuple of the variables, in the order."""
    names = []
    for number in from_the_top(directly_below(above)):
        names.extend([name for name, _ in assigned(blocks[number])])
    return tuple(names)
