"""Keeping an allocation of a program while both are changed, with ways back and again."""

from registerways.allocations import Allocation, first_fit, free_register
from registerways.blocks import replaced
from registerways.checks import check_variable
from registerways.errors import AssignedTwice, NoPlace, NothingAgain, NothingBack, TooFew
from registerways.programs import Program
from registerways.reassigning import reassigned
from registerways.swaps import swapped


class Kept:
    """A program and an allocation of it, which are changed together."""

    def __init__(self, program, size):
        # The moments behind the present one are those that were taken back.
        self._moments = [(first_fit(program, size), 0)]
        self._present = 0

    @property
    def now(self):
        """The present allocation."""
        allocation, _ = self._moments[self._present]
        return allocation

    @property
    def changed(self):
        """How many variables got another register by the last change."""
        _, many = self._moments[self._present]
        return many

    def put_in(self, block, at, instruction):
        """Put an instruction into a block; raises NoPlace, the errors of a program, and TooFew."""
        instructions = instructions_of(self.now.program, block, at, 1)
        self._adapt(block, instructions[:at] + (instruction,) + instructions[at:])

    def take_out(self, block, at):
        """Take an instruction out of a block; raises NoPlace, and the errors of a program."""
        instructions = instructions_of(self.now.program, block, at, 0)
        self._adapt(block, instructions[:at] + instructions[at + 1:])

    def resize(self, size):
        """Have another number of registers from now on; raises TooFew."""
        self._change(adapted(self.now, self.now.program, size))

    def rename(self, name, new):
        """Give a variable another name; raises NoVariable, and AssignedTwice if another variable has it."""
        allocation = self.now
        check_variable(allocation.program, name)
        if new != name and new in allocation.program:
            raise AssignedTwice(new)
        program = renamed(allocation.program, name, new)
        self._stand(Allocation(program, allocation.size, allocation.registers), 0)

    def reassign(self, name, reg):
        """Reassign a variable, with the errors of reassigned."""
        self._change(reassigned(self.now, name, reg))

    def swap(self, name, reg):
        """Swap a variable, with the errors of swapped."""
        self._change(swapped(self.now, name, reg))

    def back(self):
        """Take back the last change; raises NothingBack."""
        if self._present == 0:
            raise NothingBack()
        self._present -= 1

    def again(self):
        """Make the change again that was taken back last; raises NothingAgain."""
        if self._present == len(self._moments) - 1:
            raise NothingAgain()
        self._present += 1

    def _adapt(self, block, instructions):
        """Replace the instructions of a block."""
        program = with_instructions(self.now.program, block, instructions)
        self._change(adapted(self.now, program, self.now.size))

    def _change(self, allocation):
        """Make a change to an allocation in which each variable has the name that it had before."""
        self._stand(allocation, moved(self.now, allocation))

    def _stand(self, allocation, many):
        """Make a change to an allocation in which so many variables have other registers than before."""
        self._moments = self._moments[:self._present + 1] + [(allocation, many)]
        self._present += 1


def instructions_of(program, block, at, beyond):
    """The instructions of a block; raises NoPlace unless at is one of their numbers, or of so many beyond them."""
    if block < 0 or block >= len(program.blocks):
        raise NoPlace(block, at)
    _, instructions, _ = program.blocks[block]
    if at < 0 or at >= len(instructions) + beyond:
        raise NoPlace(block, at)
    return instructions


def with_instructions(program, block, instructions):
    """The program with other instructions in a block."""
    blocks = list(program.blocks)
    parameters, _, end = blocks[block]
    blocks[block] = (parameters, instructions, end)
    return Program(blocks)


def renamed(program, name, new):
    """The program with another name for a variable."""
    def after(operand):
        """What stands in the place of an operand, or of a name that is assigned."""
        return new if operand == name else operand

    return Program(replaced(program.blocks, after, after))


def adapted(former, program, size):
    """An allocation of a program that is as much like a former one as the order of the variables allows."""
    by_name = {}
    for name in program.order:
        taken = [by_name[other] for other in program.earlier[name]]
        reg = free_register(taken, 0)
        if name in former.program and former[name] < size and former[name] not in taken:
            reg = former[name]
        if reg >= size:
            raise TooFew(size)
        by_name[name] = reg
    return Allocation(program, size, tuple(by_name.values()))


def moved(former, allocation):
    """How many variables have another register than in a former allocation in which they are, too."""
    names = [name for name in allocation.program.order if name in former.program]
    return len([name for name in names if allocation[name] != former[name]])
