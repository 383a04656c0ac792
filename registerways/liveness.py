"""Which variables are needed at which points of a program."""

from registerways.checks import check_variable, checked_point
from registerways.graphs import path_to
from registerways.lifetimes import all_points, operands_used, points_behind


def points(program):
    """The tuple of all points of a program, by blocks and ascending in each block."""
    return all_points(program.blocks)


def live(program, point):
    """The tuple of the variables that are live at a point, in the order."""
    return program.lives[checked_point(program, point)]


def held(program, point):
    """The tuple of the variables that are held at a point, in the order: live at it or assigned at it."""
    return program.holds[checked_point(program, point)]


def use_path(program, point, name):
    """A shortest path of points from a point to one from which a step uses the variable.

    The variable is not assigned at any of them but perhaps the first one. None
    if there is no such path.
    """
    start = checked_point(program, point)
    check_variable(program, name)
    before = {start: None}
    level = [start]
    while level:
        following = []
        for place in level:
            if name in operands_used(program.blocks, place):
                return path_to(before, place)
            for target in points_behind(program.blocks, place):
                if target not in before and target != program.places[name]:
                    before[target] = place
                    following.append(target)
        level = following
    return None
