"""The text of a program, written and read."""

from registerways.errors import BadText
from registerways.programs import Program

LETTERS = "abcdefghijklmnopqrstuvwxyz"
DIGITS = "0123456789"
LONGEST_NAME = 6
NO_NAMES = ("block", "else", "give", "go", "if", "tell")
OPERATIONS = ("add", "sub", "mul", "less", "equal")
ENDS = ("give", "go", "if")
GREATEST_WORD = 65535
GREATEST_BLOCK = 9999
MOST_DIGITS = 5


def program_text(program):
    """The text of a program: lines joined by newlines."""
    lines = []
    for parameters, instructions, end in program.blocks:
        lines.append(line_of(("block", *parameters)))
        lines.extend([instruction_text(instruction) for instruction in instructions])
        lines.append(end_text(end))
    return "\n".join(lines)


def line_of(parts):
    """A line of the given names and integers, separated by one space."""
    return " ".join([str(part) for part in parts])


def instruction_text(instruction):
    """The line of an instruction."""
    if instruction[0] == "tell":
        return line_of(instruction)
    name, operation, x, y = instruction
    return line_of((name, "=", operation, x, y))


def end_text(end):
    """The line of an end."""
    if end[0] == "give":
        _, operands = end
        return line_of(("give", *operands))
    if end[0] == "go":
        _, block, arguments = end
        return line_of(("go", block, *arguments))
    _, x, block, arguments, other, others = end
    return line_of(("if", x, block, *arguments, "else", other, *others))


def read_program(text):
    """The program with a text; raises BadText(line) for the first line that cannot stand where it stands."""
    lines = text.split("\n")
    blocks = []
    parameters = None
    instructions = []
    for line, row in enumerate(lines, start=1):
        words = row.split(" ")
        if parameters is None:
            parameters = read_parameters(words, line)
            instructions = []
        elif words[0] in ENDS:
            blocks.append((parameters, instructions, read_end(words, line)))
            parameters = None
        else:
            instructions.append(read_instruction(words, line))
    if parameters is not None:
        raise BadText(len(lines) + 1)
    return Program(blocks)


def read_parameters(words, line):
    """The parameters of a line that begins a block."""
    if words[0] != "block":
        raise BadText(line)
    return [read_name(word, line) for word in words[1:]]


def read_instruction(words, line):
    """The instruction of a line."""
    if words[0] == "tell":
        if len(words) != 2:
            raise BadText(line)
        return ("tell", read_operand(words[1], line))
    if len(words) != 5 or words[1] != "=" or words[2] not in OPERATIONS:
        raise BadText(line)
    name = read_name(words[0], line)
    return (name, words[2], read_operand(words[3], line), read_operand(words[4], line))


def read_end(words, line):
    """The end of a line whose first word is one of ENDS."""
    if words[0] == "give":
        return ("give", read_operands(words[1:], line))
    if words[0] == "go":
        block, arguments = read_jump(words[1:], line)
        return ("go", block, arguments)
    if "else" not in words:
        raise BadText(line)
    middle = words.index("else")
    x = read_operand(words[1], line)
    block, arguments = read_jump(words[2:middle], line)
    other, others = read_jump(words[middle + 1:], line)
    return ("if", x, block, arguments, other, others)


def read_jump(words, line):
    """The block number and the arguments of a jump."""
    if not words:
        raise BadText(line)
    return (read_number(words[0], GREATEST_BLOCK, line), read_operands(words[1:], line))


def read_operands(words, line):
    """The tuple of the operands that the words are."""
    return tuple([read_operand(word, line) for word in words])


def read_operand(word, line):
    """The operand that a word of text is: a name or an integer."""
    if is_name(word):
        return word
    return read_number(word, GREATEST_WORD, line)


def read_name(word, line):
    """The name that a word of text is."""
    if not is_name(word):
        raise BadText(line)
    return word


def read_number(word, greatest, line):
    """The integer that a word of text is, which is at most the given one."""
    if not is_number(word) or int(word) > greatest:
        raise BadText(line)
    return int(word)


def is_name(word):
    """Whether a word of text is a name."""
    if word in NO_NAMES or len(word) < 1 or len(word) > LONGEST_NAME:
        return False
    return all([letter in LETTERS for letter in word])


def is_number(word):
    """Whether a word of text is an integer of few digits, without a sign and without needless zeros."""
    # The length is asked first because int() refuses digits by the thousand.
    if len(word) < 1 or len(word) > MOST_DIGITS:
        return False
    if word[0] == "0" and len(word) > 1:
        return False
    return all([digit in DIGITS for digit in word])
