"""The parts of one block: what it assigns, what it uses and where it jumps to."""


def assigned(block):
    """The variables that a block assigns, as pairs (name, j), where j is that of their point."""
    parameters, instructions, _ = block
    pairs = [(name, 0) for name in parameters]
    for at, instruction in enumerate(instructions):
        if instruction[0] != "tell":
            pairs.append((instruction[0], at + 1))
    return tuple(pairs)


def jumps(end):
    """The jumps of an end, as pairs (block, arguments)."""
    if end[0] == "give":
        return ()
    if end[0] == "go":
        _, block, arguments = end
        return ((block, arguments),)
    _, _, block, arguments, other, others = end
    return ((block, arguments), (other, others))


def operands_of_instruction(instruction):
    """The operands of an instruction, from left to right."""
    if instruction[0] == "tell":
        return instruction[1:]
    return instruction[2:]


def operands_of_end(end):
    """The operands of an end, from left to right, those of all its jumps among them."""
    if end[0] == "give":
        return end[1]
    operands = [end[1]] if end[0] == "if" else []
    for _, arguments in jumps(end):
        operands.extend(arguments)
    return tuple(operands)


def replaced(blocks, target, operand):
    """Blocks with target(name) in the place of each name that they assign, and operand(x) in that of each operand x."""
    found = []
    for parameters, instructions, end in blocks:
        found.append((
            tuple([target(name) for name in parameters]),
            tuple([replaced_instruction(instruction, target, operand) for instruction in instructions]),
            replaced_end(end, operand),
        ))
    return tuple(found)


def replaced_instruction(instruction, target, operand):
    """An instruction with other values in the place of its name and its operands."""
    if instruction[0] == "tell":
        return ("tell", operand(instruction[1]))
    name, operation, x, y = instruction
    return (target(name), operation, operand(x), operand(y))


def replaced_end(end, operand):
    """An end with other values in the place of its operands."""
    if end[0] == "give":
        return ("give", tuple([operand(x) for x in end[1]]))
    if end[0] == "go":
        _, block, arguments = end
        return ("go", block, tuple([operand(x) for x in arguments]))
    _, tested, block, arguments, other, others = end
    return (
        "if", operand(tested),
        block, tuple([operand(x) for x in arguments]),
        other, tuple([operand(x) for x in others]),
    )
