"""The execution of a program, one instruction or end after the other."""

from registerways.blocks import jumps
from registerways.errors import WrongCount
from registerways.words import result_of


def check_inputs(inputs, parameters):
    """Raise WrongCount for the entry if it has not as many parameters as there are inputs."""
    if len(inputs) != len(parameters):
        raise WrongCount(0)


class Progress:
    """How far a run has come: what all kinds of runs have in common.

    told is the list of the told words; given is the tuple of the given ones,
    or None as long as nothing has been given; spent is the fuel used up so far.
    """

    def __init__(self):
        self.told = []
        self.given = None
        self.spent = 0

    def goes_on(self, fuel):
        """Whether something is left to be executed with so much fuel in all."""
        return self.given is None and self.spent < fuel


class Execution(Progress):
    """A run of blocks that has come to a point and goes on by one instruction or end at a time.

    words is a dict from the variables that have been assigned so far to their words.
    """

    def __init__(self, blocks, inputs):
        super().__init__()
        parameters, _, _ = blocks[0]
        check_inputs(inputs, parameters)
        self.blocks = blocks
        self.words = dict(zip(parameters, inputs))
        self.point = (0, 0)

    def execute(self):
        """Execute the instruction or the end behind the present point."""
        block, at = self.point
        _, instructions, end = self.blocks[block]
        if at < len(instructions):
            self.execute_instruction(instructions[at])
            self.point = (block, at + 1)
        else:
            self.execute_end(end)
        self.spent += 1

    def execute_instruction(self, instruction):
        """Tell a word, or assign one to a variable."""
        if instruction[0] == "tell":
            self.told.append(self.word_of(instruction[1]))
        else:
            name, operation, x, y = instruction
            self.words[name] = result_of(operation, self.word_of(x), self.word_of(y))

    def execute_end(self, end):
        """Give words, or jump to a block."""
        if end[0] == "give":
            self.given = self.words_of(end[1])
        elif end[0] == "if" and self.word_of(end[1]) == 0:
            _, otherwise = jumps(end)
            self.jump(otherwise)
        else:
            self.jump(jumps(end)[0])

    def jump(self, target):
        """Go to the beginning of a block; the jump is a pair (block, arguments)."""
        block, arguments = target
        parameters, _, _ = self.blocks[block]
        # All arguments are evaluated first: they may be parameters of this very block.
        words = self.words_of(arguments)
        for name, word in zip(parameters, words):
            self.words[name] = word
        self.point = (block, 0)

    def words_of(self, operands):
        """The tuple of the values of operands."""
        return tuple([self.word_of(operand) for operand in operands])

    def word_of(self, operand):
        """The value of an operand."""
        if isinstance(operand, str):
            return self.words[operand]
        return operand
