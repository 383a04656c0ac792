"""Checks of what callers pass beside a program."""

from registerways.allocations import how_many, is_register
from registerways.errors import NoPoint, NoRegister, NotAkin, NoVariable, TooMany
from registerways.tuples import in_tuples

MOST_ALLOCATIONS = 500


def checked_point(program, point):
    """The point as a tuple; raises NoPoint if the program has no such point."""
    checked = in_tuples(point)
    if checked not in program.holds:
        raise NoPoint(point)
    return checked


def check_variable(program, name):
    """Raise NoVariable if the program has no such variable."""
    if name not in program:
        raise NoVariable(name)


def check_change(allocation, name, reg):
    """Raise NoVariable if there is no such variable, and NoRegister if the allocation has no such register."""
    check_variable(allocation.program, name)
    if not is_register(reg, allocation.size):
        raise NoRegister(reg)


def check_akin(one, other):
    """Raise NotAkin if two allocations are not of the same size and of programs with equal blocks."""
    if one.size != other.size or one.program.blocks != other.program.blocks:
        raise NotAkin()


def check_few(program, size):
    """Raise TooMany if there are too many allocations to look at all of them."""
    number = how_many(program, size)
    if number > MOST_ALLOCATIONS:
        raise TooMany(number)
