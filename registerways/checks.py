"""Checks of what callers pass beside a program."""

from registerways.errors import NoPoint, NoVariable
from registerways.tuples import in_tuples


def checked_point(program, point):
    """The point as a tuple; raises NoPoint if the program has no such point."""
    checked = in_tuples(point)
    if checked not in program.holds:
        raise NoPoint(point)
    return checked


def check_variable(program, name):
    """Raise NoVariable if the program has no such variable."""
    if name not in program:
        raise NoVariable(name)
