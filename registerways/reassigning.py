"""Reassignments: one variable gets another register. With a spare register they connect all allocations."""

from registerways.allocations import Allocation
from registerways.checks import check_akin, check_change
from registerways.conflicts import fewest
from registerways.errors import NoSpare, Taken
from registerways.merging import merges
from registerways.moving import Moves


def reassigned(allocation, name, reg):
    """The allocation after one variable got a register; raises Taken if one that conflicts with it has it."""
    check_change(allocation, name, reg)
    for other in allocation.program.partners[name]:
        if allocation[other] == reg:
            raise Taken(other)
    registers = [reg if x == name else allocation[x] for x in allocation.program.order]
    return Allocation(allocation.program, allocation.size, registers)


def free_registers(allocation, name):
    """The ascending tuple of the registers, other than its own, to which a variable can be reassigned."""
    own = allocation[name]
    barred = [allocation[other] for other in allocation.program.partners[name]]
    return tuple([reg for reg in range(allocation.size) if reg != own and reg not in barred])


def reassign_way(one, other):
    """Reassignments, as pairs (name, reg), that lead from an allocation to another one.

    Raises NotAkin, and NoSpare if there are not more registers than the fewest.
    """
    check_akin(one, other)
    size, _ = fewest(one.program)
    if one.size <= size:
        raise NoSpare(one.size)
    if one == other:
        return ()
    return way_over_merges(one, other)


def way_over_merges(one, other):
    """The way from an allocation to another one, which are not equal."""
    parts, last = merges(one.program)
    there = Moves(one)
    back = Moves(other)
    for part in parts:
        there.merge(part)
        back.merge(part)
    # Now each variable that is left out follows one of the last ones, which all conflict with one another.
    there.bring({name: back.registers[name] for name in last}, ())
    way = [(name, reg) for name, _, reg in there.steps]
    way.extend([(name, former) for name, former, _ in back.steps[::-1]])
    return tuple(way)
