"""The operands of machine code: words, and registers whose words are taken."""

from registerways.blocks import replaced


def in_registers(blocks, allocation):
    """Blocks of the program of an allocation, with registers in the place of variables."""
    return replaced(blocks, lambda name: allocation[name], lambda x: operand_in(allocation, x))


def operand_in(allocation, operand):
    """What stands in machine code in the place of an operand."""
    if isinstance(operand, str):
        return ("reg", allocation[operand])
    return ("word", operand)


def word_in(words, operand):
    """The value of an operand of machine code; words are those in the registers."""
    kind, value = operand
    if kind == "reg":
        return words[value]
    return value
