"""Swaps: two registers are exchanged along a chain of variables. They connect all allocations of one size."""

from registerways.allocations import Allocation
from registerways.checks import check_akin, check_change


def chain(allocation, name, reg):
    """The tuple of the variables, in the order, that change together when a variable is swapped to a register."""
    check_change(allocation, name, reg)
    found = chained(allocation, name, reg)
    return tuple([x for x in allocation.program.order if x in found])


def chained(allocation, name, reg):
    """The variables of a chain, as the keys of a dict."""
    exchanged = (allocation[name], reg)
    found = {name: True}
    waiting = [name]
    while waiting:
        last = waiting.pop()
        for other in allocation.program.partners[last]:
            if other not in found and allocation[other] in exchanged:
                found[other] = True
                waiting.append(other)
    return found


def swapped(allocation, name, reg):
    """The allocation after a variable has been swapped to a register."""
    check_change(allocation, name, reg)
    found = chained(allocation, name, reg)
    exchanged = {allocation[name]: reg, reg: allocation[name]}
    registers = []
    for x in allocation.program.order:
        own = allocation[x]
        registers.append(exchanged[own] if x in found else own)
    return Allocation(allocation.program, allocation.size, registers)


def swap_way(one, other):
    """The swaps, as pairs (name, reg), that lead from an allocation to another one; raises NotAkin."""
    check_akin(one, other)
    way = []
    present = one
    for name in one.program.order:
        reg = other[name]
        if present[name] != reg:
            way.append((name, reg))
            present = swapped(present, name, reg)
    return tuple(way)
