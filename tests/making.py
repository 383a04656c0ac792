"""Programs by the hundred for tests: each made from a number, the same one each time."""

import random

from registerways.allocations import allocation_at, how_many
from registerways.programs import Program

OPERATIONS = ("add", "sub", "mul", "less", "equal")
NAMES = tuple(first + second for first in ("", "k", "zz", "pqrst") for second in "qawxdremnbvcyputlohsgjfi")
WORDS = (0, 1, 2, 3, 100, 255, 256, 32768, 65534, 65535)


def made_blocks(seed, most_blocks=6, most_parameters=3, most_instructions=4):
    """The blocks of a program that breaks no rule."""
    dice = random.Random(seed)
    targets = made_targets(dice, dice.randint(1, most_blocks))
    names = list(NAMES)
    dice.shuffle(names)
    heads = []
    for _ in targets:
        parameters = tuple(names.pop() for _ in range(dice.randint(0, most_parameters)))
        many = dice.randint(0, most_instructions)
        assigned = tuple(names.pop() if dice.random() < 0.7 else None for _ in range(many))
        heads.append((parameters, assigned))
    return tuple(made_block(dice, targets, heads, block) for block in range(len(targets)))


def made_targets(dice, size):
    """For each block the blocks to which it jumps: none of them the entry, and each other one is reached."""
    targets = [[] for _ in range(size)]
    inside = [0]
    outside = list(range(1, size))
    dice.shuffle(outside)
    for block in outside:
        above = dice.choice([each for each in inside if len(targets[each]) < 2])
        targets[above].append(block)
        inside.append(block)
    for each in targets:
        while size > 1 and len(each) < 2 and dice.random() < 0.5:
            each.insert(dice.randint(0, len(each)), dice.randint(1, size - 1))
    return targets


def reached_without(targets, left_out):
    """The set of the blocks to which paths lead that do not contain one block."""
    found = set()
    waiting = [0]
    while waiting:
        block = waiting.pop()
        if block != left_out and block not in found:
            found.add(block)
            waiting.extend(targets[block])
    return found


def made_block(dice, targets, heads, block):
    """One block that uses only what is assigned before."""
    parameters, assigned = heads[block]
    usable = list(parameters)
    for other, (more, names) in enumerate(heads):
        if other != block and block not in reached_without(targets, other):
            usable.extend(more + tuple(name for name in names if name is not None))

    def operand():
        return dice.choice(usable) if usable and dice.random() < 0.8 else dice.choice(WORDS)

    def operands(many):
        return tuple(operand() for _ in range(many))

    instructions = []
    for name in assigned:
        if name is None:
            instructions.append(("tell", operand()))
        else:
            instructions.append((name, dice.choice(OPERATIONS)) + operands(2))
            usable.append(name)
    if not targets[block]:
        return (parameters, tuple(instructions), ("give", operands(dice.randint(0, 3))))
    passed = [(target, operands(len(heads[target][0]))) for target in targets[block]]
    if len(passed) == 1:
        return (parameters, tuple(instructions), ("go",) + passed[0])
    return (parameters, tuple(instructions), ("if", operand()) + passed[0] + passed[1])


def made(seed, **limits):
    """A program that breaks no rule."""
    return Program(made_blocks(seed, **limits))


def made_inputs(seed, program):
    """Words for the parameters of the entry."""
    dice = random.Random(seed)
    return tuple(dice.choice(WORDS) for _ in program.blocks[0][0])


def made_large(seed):
    """A program of twelve blocks and of 36 to 40 variables."""
    for more in range(1000):
        blocks = made_blocks(1000 * seed + more, most_blocks=12, most_parameters=2, most_instructions=6)
        if len(blocks) == 12:
            program = Program(blocks)
            if 36 <= len(program) <= 40:
                return program
    raise AssertionError("none of these numbers makes one")


def made_conflicts(seed, many, most_partners):
    """Names, and pairs of them that are the conflicts of some program.

    Each name is a partner of at most so many of the names before it, which are
    all partners of one another.
    """
    dice = random.Random(seed)
    names = [first + second for first in "abcd" for second in "abcdefghijklmnopqrstuvwxyz"][:many]
    before = {}
    for at, name in enumerate(names):
        base = dice.choice(names[:at]) if at else None
        known = [base] + before[base] if at else []
        # As many as possible at times, so that there are sets of many names.
        some = dice.choice((len(known), dice.randint(0, len(known))))
        before[name] = dice.sample(known, min(some, most_partners))
    pairs = [dice.choice(((name, other), (other, name))) for name in names for other in before[name]]
    dice.shuffle(pairs)
    dice.shuffle(names)
    return tuple(names), tuple(pairs)


def some_allocations(seed, program, size, many=3):
    """The first and the last allocation of a size, and some between them, in ascending order."""
    dice = random.Random(seed)
    number = how_many(program, size)
    wanted = {0, number - 1} | {dice.randrange(number) for _ in range(many)} if number else set()
    return [allocation_at(program, size, each) for each in sorted(wanted)]
