"""Which variables of a program are needed at the same time."""

from registerways.checks import check_variable
from registerways.liveness import held, points


def conflict(program, first, second):
    """Whether two variables conflict: they are different, and there is a point at which both are held."""
    check_variable(program, first)
    check_variable(program, second)
    return first in program.earlier[second] or second in program.earlier[first]


def earlier(program, name):
    """The tuple of the variables that conflict with a variable and come before it, in the order."""
    check_variable(program, name)
    return program.earlier[name]


def conflicts(program):
    """The tuple of all pairs (x, y) of variables that conflict, x before y, sorted by y, then by x."""
    return tuple([(x, y) for y in program.order for x in program.earlier[y]])


def fewest(program):
    """The greatest number of variables that are held at one point, and the first point at which so many are."""
    size = 0
    fullest = (0, 0)
    for point in points(program):
        many = len(held(program, point))
        if many > size:
            size = many
            fullest = point
    return (size, fullest)
