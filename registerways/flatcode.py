"""Flat code: machine code without blocks, in which the arguments of jumps are copied one by one."""

from registerways.allocations import each_allocation, how_many
from registerways.blocks import jumps
from registerways.checks import check_few
from registerways.copying import in_turn
from registerways.errors import TooFew
from registerways.executing import Progress, check_inputs
from registerways.operands import in_registers, word_in
from registerways.running import completed
from registerways.words import result_of


class Flat:
    """The machine code of an allocation as rows; its last register is one more than those of the allocation."""

    def __init__(self, allocation):
        blocks = in_registers(allocation.program.blocks, allocation)
        parameters, _, _ = blocks[0]
        self.size = allocation.size + 1
        self.rows = rows_of_blocks(blocks, allocation.size)
        self._parameters = parameters

    def __call__(self, inputs, fuel=2000):
        """The result of a run; raises WrongCount(0) if there are too few or too many inputs."""
        check_inputs(inputs, self._parameters)
        entry = dict(zip(self._parameters, inputs))
        words = [entry.get(reg, 0) for reg in range(self.size)]
        return completed(FlatExecution(self.rows, words), fuel)


class FlatExecution(Progress):
    """A run of rows that has come to the row number at; words is the list of the values of the registers."""

    def __init__(self, rows, words):
        super().__init__()
        self.rows = rows
        self.words = words
        self.at = 0

    def execute(self):
        """Execute the present row."""
        row = self.rows[self.at]
        self.at += 1
        self.spent += 1
        if row[0] == "tell":
            self.told.append(word_in(self.words, row[1]))
        elif row[0] == "set":
            self.words[row[1]] = word_in(self.words, row[2])
        elif row[0] == "jump":
            self.at = row[1]
        elif row[0] == "unless":
            if word_in(self.words, row[1]) == 0:
                self.at = row[2]
        elif row[0] == "give":
            self.given = tuple([word_in(self.words, x) for x in row[1]])
        else:
            operation, reg, x, y = row
            self.words[reg] = result_of(operation, word_in(self.words, x), word_in(self.words, y))


def rows_of_blocks(blocks, spare):
    """The tuple of the rows of blocks of machine code; spare is the register for copies in rings."""
    parts = [rows_of_block(blocks, block, spare) for block in blocks]
    starts = []
    many = 0
    for part in parts:
        starts.append(many)
        many += len(part)
    rows = []
    for start, part in zip(starts, parts):
        rows.extend([placed(row, start, starts) for row in part])
    return tuple(rows)


def placed(row, start, starts):
    """A row of a part that starts with the row number start, where starts are the numbers for all blocks."""
    if row[0] == "jump":
        return ("jump", starts[row[1]])
    if row[0] == "unless":
        return ("unless", row[1], start + row[2])
    return row


def rows_of_block(blocks, block, spare):
    """The rows of one block, in which a jump leads to a block, and "unless" to a row counted from the block's first."""
    _, instructions, end = block
    rows = [row_of_instruction(instruction) for instruction in instructions]
    if end[0] == "give":
        return [*rows, end]
    parts = [rows_of_jump(blocks, jump, spare) for jump in jumps(end)]
    if end[0] == "if":
        rows.append(("unless", end[1], len(rows) + 1 + len(parts[0])))
    for part in parts:
        rows.extend(part)
    return rows


def row_of_instruction(instruction):
    """The row of an instruction."""
    if instruction[0] == "tell":
        return instruction
    reg, operation, x, y = instruction
    return (operation, reg, x, y)


def rows_of_jump(blocks, jump, spare):
    """The rows that copy the arguments of a jump, and jump to its block."""
    target, _ = jump
    copies = in_turn(copies_of_jump(blocks, jump), spare)
    return [("set", reg, source) for reg, source in copies] + [("jump", target)]


def copies_of_jump(blocks, jump):
    """The copies of the arguments of a jump to the registers of the parameters, to be executed at once."""
    target, arguments = jump
    parameters, _, _ = blocks[target]
    return tuple(zip(parameters, arguments))


def copies_needed(allocation):
    """How many copies all jumps together need if they are executed in turn."""
    # Instructions are left out because they copy nothing.
    bare = [(parameters, (), end) for parameters, _, end in allocation.program.blocks]
    blocks = in_registers(bare, allocation)
    needed = 0
    for _, _, end in blocks:
        for jump in jumps(end):
            needed += len(in_turn(copies_of_jump(blocks, jump), allocation.size))
    return needed


def fewest_copies(program, size):
    """The least number of copies that an allocation of a size needs, and the least rank of such an allocation.

    Raises TooFew, and TooMany if there are too many allocations to look at all of them.
    """
    if how_many(program, size) == 0:
        raise TooFew(size)
    check_few(program, size)
    return min([(copies_needed(each), each.rank) for each in each_allocation(program, size)])
