"""Whether reassignments lead from one allocation to another one, also if no register is to spare."""

from registerways.allocations import Allocation
from registerways.checks import check_akin, check_few
from registerways.conflicts import fewest
from registerways.graphs import path_to
from registerways.liveness import held, points
from registerways.reassigning import reassign_way


class Verdict:
    """Whether reassignments lead from one allocation to another one, and why. What does not apply is None.

    way is a way of reassignments; name is a variable that can never be
    reassigned and would have to be, and point is where it is held; numbers are
    the numbers of all allocations to which reassignments lead.
    """

    def __init__(self, holds, way=None, name=None, point=None, numbers=None):
        self.holds = holds
        self.way = way
        self.name = name
        self.point = point
        self.numbers = numbers

    def __bool__(self):
        return bool(self.holds)


def fixed(allocation):
    """The tuple of the variables, in the order, that are held at a point at which all registers are taken."""
    places = places_of_fixed(allocation)
    return tuple([name for name in allocation.program.order if name in places])


def places_of_fixed(allocation):
    """A dict from each variable that is held at a full point to the first such point."""
    program = allocation.program
    places = {}
    for point in points(program):
        names = held(program, point)
        if len(names) == allocation.size:
            for name in names:
                places.setdefault(name, point)
    return places


def joined(one, other):
    """The verdict on two allocations; raises NotAkin, and TooMany if it cannot be told without looking at too many."""
    check_akin(one, other)
    size, _ = fewest(one.program)
    if one.size > size:
        return Verdict(True, way=reassign_way(one, other))
    for name in fixed(one):
        if one[name] != other[name]:
            return Verdict(False, name=name, point=places_of_fixed(one)[name])
    check_few(one.program, one.size)
    before = ways_from(one)
    if other.registers in before:
        return Verdict(True, way=way_to(before, other))
    return Verdict(False, numbers=numbers_of(one, before))


def reachable(allocation):
    """The ascending tuple of the numbers of all allocations to which reassignments lead; raises TooMany."""
    check_few(allocation.program, allocation.size)
    return numbers_of(allocation, ways_from(allocation))


def shortest_way(one, other):
    """A way of as few reassignments as possible, as pairs (name, reg), or None; raises NotAkin and TooMany."""
    check_akin(one, other)
    check_few(one.program, one.size)
    before = ways_from(one)
    if other.registers not in before:
        return None
    return way_to(before, other)


def ways_from(allocation):
    """The registers of all allocations to which reassignments lead from one.

    It is a dict from each of them to the one before it on a shortest way, and
    to None for the allocation's own.
    """
    before = {allocation.registers: None}
    level = [allocation.registers]
    while level:
        following = []
        for registers in level:
            for target in one_step_behind(allocation.program, allocation.size, registers):
                if target not in before:
                    before[target] = registers
                    following.append(target)
        level = following
    return before


def one_step_behind(program, size, registers):
    """The list of the registers of all allocations to which one reassignment leads."""
    by_name = dict(zip(program.order, registers))
    found = []
    for at, name in enumerate(program.order):
        barred = [by_name[other] for other in program.partners[name]]
        for reg in range(size):
            if reg != registers[at] and reg not in barred:
                found.append(registers[:at] + (reg,) + registers[at + 1:])
    return found


def way_to(before, allocation):
    """The reassignments that lead to an allocation, as pairs (name, reg), where ways_from has returned before."""
    path = path_to(before, allocation.registers)
    way = []
    for former, following in zip(path, path[1:]):
        for name, old, new in zip(allocation.program.order, former, following):
            if old != new:
                way.append((name, new))
    return tuple(way)


def numbers_of(allocation, before):
    """The ascending tuple of the numbers of the allocations whose registers are the keys of before."""
    program = allocation.program
    return tuple(sorted([Allocation(program, allocation.size, registers).rank for registers in before]))
