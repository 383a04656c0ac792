"""The allocations of a program: all of them, numbered, without going through them."""

from registerways.errors import BadRegister, Conflict, NoNumber, NoVariable, TooFew
from registerways.tuples import in_tuples


class Allocation:
    """A register for each variable of a program, in the order, so that variables that conflict have unlike ones."""

    def __init__(self, program, size, registers):
        given = in_tuples(registers)
        check_registers(program.order, size, given)
        by_name = dict(zip(program.order, given))
        check_conflicts(program, by_name)
        self.program = program
        self.size = size
        self.registers = given
        self._by_name = by_name

    @property
    def rank(self):
        """The number of this allocation among those of its program and size, which are in ascending order."""
        number = 0
        for name in self.program.order:
            reg = self._by_name[name]
            less = [x for x in self.program.earlier[name] if self._by_name[x] < reg]
            number = number * choices(self.program, self.size, name) + reg - len(less)
        return number

    def __getitem__(self, name):
        if name not in self._by_name:
            raise NoVariable(name)
        return self._by_name[name]

    def __iter__(self):
        raise TypeError("an allocation is not iterated over")

    def __eq__(self, other):
        if not isinstance(other, Allocation):
            return NotImplemented
        return (self.size, self.registers) == (other.size, other.registers)

    def __lt__(self, other):
        if not isinstance(other, Allocation):
            return NotImplemented
        return (self.size, self.registers) < (other.size, other.registers)

    def __le__(self, other):
        if not isinstance(other, Allocation):
            return NotImplemented
        return (self.size, self.registers) <= (other.size, other.registers)

    def __gt__(self, other):
        if not isinstance(other, Allocation):
            return NotImplemented
        return (self.size, self.registers) > (other.size, other.registers)

    def __ge__(self, other):
        if not isinstance(other, Allocation):
            return NotImplemented
        return (self.size, self.registers) >= (other.size, other.registers)


def check_registers(order, size, registers):
    """Raise BadRegister for the first variable without a register, or if there are more entries than variables."""
    for at, name in enumerate(order):
        if at >= len(registers) or not is_register(registers[at], size):
            raise BadRegister(name)
    if len(registers) > len(order):
        raise BadRegister(None)


def is_register(entry, size):
    """Whether an entry is one of so many registers."""
    if not isinstance(entry, int) or isinstance(entry, bool):
        return False
    return 0 <= entry < size


def check_conflicts(program, by_name):
    """Raise Conflict for the first variable that has the register of an earlier one with which it conflicts."""
    for second in program.order:
        for first in program.earlier[second]:
            if by_name[first] == by_name[second]:
                raise Conflict(first, second)


def choices(program, size, name):
    """How many registers a variable may have, whatever those of the variables before it are."""
    # Its earlier partners conflict with one another, so each of them takes another register.
    return max(0, size - len(program.earlier[name]))


def how_many(program, size):
    """The number of the allocations of a program with so many registers."""
    number = 1
    for name in program.order:
        number = number * choices(program, size, name)
    return number


def allocation_at(program, size, number):
    """The allocation with a number; raises NoNumber if there is none."""
    if number < 0 or number >= how_many(program, size):
        raise NoNumber(number)
    by_name = {}
    for name, choice in zip(program.order, choices_at(program, size, number)):
        taken = [by_name[x] for x in program.earlier[name]]
        by_name[name] = free_register(taken, choice)
    return Allocation(program, size, tuple(by_name.values()))


def choices_at(program, size, number):
    """For each variable, how many lesser registers are free for it in the allocation with a number."""
    # They are the digits of the number, each to the base of what its variable may choose from.
    digits = []
    rest = number
    for name in program.order[::-1]:
        rest, digit = divmod(rest, choices(program, size, name))
        digits.append(digit)
    return digits[::-1]


def free_register(taken, choice):
    """The register that is not taken and has so many lesser ones that are not taken either."""
    reg = choice
    for other in sorted(taken):
        if other <= reg:
            reg = reg + 1
    return reg


def first_fit(program, size):
    """The allocation number 0; raises TooFew if there is none."""
    if how_many(program, size) == 0:
        raise TooFew(size)
    return allocation_at(program, size, 0)


def each_allocation(program, size, start=0):
    """Give the allocations with the numbers from start on, one by one, in ascending order."""
    number = start
    while number < how_many(program, size):
        yield allocation_at(program, size, number)
        number += 1
