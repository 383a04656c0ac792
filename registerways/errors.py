"""The errors of the package.

Each keeps what it is made with in attributes, lists as tuples, so that a later
change of a list does not change the error. No error writes its values into a
message of its own: they may be integers too long to be written out.
"""

from registerways.tuples import in_tuples


class RegisterError(ValueError):
    """Any error of this package."""


class AssignedTwice(RegisterError):
    """A variable is assigned at two places."""

    def __init__(self, name):
        self.name = in_tuples(name)


class NoBlock(RegisterError):
    """A jump leads to the entry or to no block."""

    def __init__(self, number):
        self.number = in_tuples(number)


class WrongCount(RegisterError):
    """A block has another number of parameters than arguments or inputs are passed."""

    def __init__(self, block):
        self.block = in_tuples(block)


class NotReached(RegisterError):
    """No path leads to a block."""

    def __init__(self, block):
        self.block = in_tuples(block)


class NotAssigned(RegisterError):
    """A use is not preceded by an assignment."""

    def __init__(self, name):
        self.name = in_tuples(name)


class BadText(RegisterError):
    """A line of a text cannot stand where it stands."""

    def __init__(self, line):
        self.line = in_tuples(line)


class NoPoint(RegisterError):
    """The program has no such point."""

    def __init__(self, point):
        self.point = in_tuples(point)


class NoVariable(RegisterError):
    """The program has no such variable."""

    def __init__(self, name):
        self.name = in_tuples(name)


class BadRegister(RegisterError):
    """A variable has no register."""

    def __init__(self, name):
        self.name = in_tuples(name)


class Conflict(RegisterError):
    """Two variables that conflict have the same register."""

    def __init__(self, first, second):
        self.first = in_tuples(first)
        self.second = in_tuples(second)


class NoNumber(RegisterError):
    """There is no allocation with this number."""

    def __init__(self, number):
        self.number = in_tuples(number)


class TooFew(RegisterError):
    """There is no allocation of this size."""

    def __init__(self, size):
        self.size = in_tuples(size)


class NoRegister(RegisterError):
    """There is no such register."""

    def __init__(self, reg):
        self.reg = in_tuples(reg)


class Taken(RegisterError):
    """Another variable has the register."""

    def __init__(self, other):
        self.other = in_tuples(other)


class NotAkin(RegisterError):
    """Two allocations do not belong together."""

    def __init__(self):
        pass


class NoSpare(RegisterError):
    """No register is to spare."""

    def __init__(self, size):
        self.size = in_tuples(size)


class TooMany(RegisterError):
    """There are more than 500 allocations."""

    def __init__(self, number):
        self.number = in_tuples(number)


class Chordless(RegisterError):
    """Conflicts contain a ring without a chord."""

    def __init__(self, ring):
        self.ring = in_tuples(ring)


class NoPlace(RegisterError):
    """There is no such place in a program."""

    def __init__(self, block, at):
        self.block = in_tuples(block)
        self.at = in_tuples(at)


class NothingBack(RegisterError):
    """There is no change to be taken back."""

    def __init__(self):
        pass


class NothingAgain(RegisterError):
    """There is no change to be made again."""

    def __init__(self):
        pass
