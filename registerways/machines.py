"""Machine code: a program with registers in the place of variables."""

from registerways.executing import Execution
from registerways.operands import in_registers, word_in
from registerways.running import completed


class Code:
    """The program of an allocation, in which each variable is replaced by its register."""

    def __init__(self, allocation):
        self.size = allocation.size
        self.blocks = in_registers(allocation.program.blocks, allocation)

    def __call__(self, inputs, fuel=200):
        """The result of a run; raises WrongCount(0) if there are too few or too many inputs."""
        return completed(CodeExecution(self.blocks, self.size, inputs), fuel)

    def states(self, inputs, fuel=200):
        """Give a pair (point, words) before each instruction and each end that a call executes.

        words is the tuple of the values of the registers.
        """
        execution = CodeExecution(self.blocks, self.size, inputs)
        while execution.goes_on(fuel):
            yield (execution.point, tuple(execution.words))
            execution.execute()


class CodeExecution(Execution):
    """A run of machine code; words is the list of the values of the registers."""

    def __init__(self, blocks, size, inputs):
        super().__init__(blocks, inputs)
        entry = self.words
        self.words = [entry.get(reg, 0) for reg in range(size)]

    def word_of(self, operand):
        """The value of an operand."""
        return word_in(self.words, operand)
