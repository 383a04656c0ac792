"""[28] to [30], and of [1] that machine code behaves like its program: the code of allocations."""

import unittest

from registerways.allocations import Allocation, allocation_at, each_allocation, first_fit, how_many
from registerways.conflicts import fewest
from registerways.errors import RegisterError, WrongCount
from registerways.liveness import live
from registerways.machines import Code
from registerways.programs import Program
from registerways.running import Result, run, trail
from registerways.texts import program_text, read_program
from tests.making import made, made_inputs, made_large, some_allocations
from tests.samples import EXAMPLE

EMPTY = "block\ntell 1\ngive"
COUNTING = "block\ngo 1 0\nblock n\ntell n\nm = add n 1\ngo 1 m"


def outcome(result):
    return (result.told, result.given, result.spent)


def shown(part):
    """A register, or an operand, as a word of text."""
    if isinstance(part, int):
        return f"r{part}"
    kind, value = part
    return {"reg": f"r{value}", "word": f"{value}"}[kind]


def shown_jump(block, arguments):
    return " ".join([str(block), *map(shown, arguments)])


def code_text(code):
    """The code, written like the text of a program, with r0, r1 and so on in the place of names."""
    lines = []
    for parameters, instructions, end in code.blocks:
        lines.append(" ".join(["block", *map(shown, parameters)]))
        for instruction in instructions:
            if instruction[0] == "tell":
                _, x = instruction
                lines.append(f"tell {shown(x)}")
            else:
                reg, operation, x, y = instruction
                lines.append(f"{shown(reg)} = {operation} {shown(x)} {shown(y)}")
        if end[0] == "give":
            _, operands = end
            lines.append(" ".join(["give", *map(shown, operands)]))
        elif end[0] == "go":
            _, block, arguments = end
            lines.append(f"go {shown_jump(block, arguments)}")
        else:
            _, x, block, arguments, other, others = end
            lines.append(f"if {shown(x)} {shown_jump(block, arguments)} else {shown_jump(other, others)}")
    return "\n".join(lines)


def text_in_registers(allocation):
    """The text of the program with r0, r1 and so on in the place of names, which are no words of operations."""
    names = {name: f"r{allocation[name]}" for name in allocation.program.order}
    lines = program_text(allocation.program).split("\n")
    return "\n".join(" ".join(names.get(word, word) for word in line.split(" ")) for line in lines)


def allocations_of(seed, program):
    """Some allocations of the least size and of larger ones."""
    few, _ = fewest(program)
    return [each for size in (few, few + 1, 40) for each in some_allocations(seed, program, size, many=1)]


class BlockTest(unittest.TestCase):
    def test_the_example(self):
        code = Code(Allocation(read_program(EXAMPLE), 3, (1, 0, 2, 0, 1, 1)))
        self.assertEqual(code.size, 3)
        self.assertEqual(code.blocks, (
            ((1, 0), (), ("go", 1, (("reg", 1), ("reg", 0)))),
            ((2, 0), ((1, "less", ("reg", 2), ("word", 100)),), ("if", ("reg", 1), 2, (), 3, ())),
            ((), ((1, "add", ("reg", 2), ("reg", 0)),), ("go", 1, (("reg", 0), ("reg", 2)))),
            ((), (), ("give", (("reg", 2),))),
        ))

    def test_words_and_variables_at_each_place(self):
        p = read_program(
            "block a\ntell 7\ntell a\nb = sub 1 a\nc = mul b 65535\nif 0 1 a 2 else 2 3\nblock x y\ngive 5 x y\n"
            "block z\nif z 1 z z else 1 0 z"
        )
        self.assertEqual(Code(first_fit(p, 2)).blocks, (
            (
                (0,),
                (
                    ("tell", ("word", 7)), ("tell", ("reg", 0)), (1, "sub", ("word", 1), ("reg", 0)),
                    (1, "mul", ("reg", 1), ("word", 65535)),
                ),
                ("if", ("word", 0), 1, (("reg", 0), ("word", 2)), 2, (("word", 3),)),
            ),
            ((0, 1), (), ("give", (("word", 5), ("reg", 0), ("reg", 1)))),
            ((0,), (), ("if", ("reg", 0), 1, (("reg", 0), ("reg", 0)), 1, (("word", 0), ("reg", 0)))),
        ))

    def test_variables_that_are_called_like_operations(self):
        p = read_program("block add\nsub = sub add sub\ngive sub".replace("add sub", "add add"))
        self.assertEqual(
            Code(first_fit(p, 1)).blocks,
            (((0,), ((0, "sub", ("reg", 0), ("reg", 0)),), ("give", (("reg", 0),))),),
        )

    def test_no_variables(self):
        for size in (0, 3):
            code = Code(Allocation(read_program(EMPTY), size, ()))
            self.assertEqual((code.size, code.blocks), (size, (((), (("tell", ("word", 1)),), ("give", ())),)))

    def test_several_allocations_by_turns(self):
        p = read_program(EXAMPLE)
        codes = [Code(each) for each in each_allocation(p, 3)]
        for _ in range(2):
            for number, code in enumerate(codes):
                self.assertEqual(code_text(code), text_in_registers(allocation_at(p, 3, number)))
        self.assertEqual(len({code.blocks for code in codes}), 36)

    def test_many_programs(self):
        for seed in range(200):
            program = made(seed)
            for allocation in allocations_of(seed, program):
                with self.subTest(seed=seed, size=allocation.size, registers=allocation.registers):
                    code = Code(allocation)
                    self.assertEqual(code.size, allocation.size)
                    self.assertEqual(code_text(code), text_in_registers(allocation))

    def test_the_blocks_are_tuples_throughout(self):
        def lists_in(value):
            if isinstance(value, (list, tuple)):
                return isinstance(value, list) or any(lists_in(part) for part in value)
            return False

        blocks = [
            [["a"], [["b", "add", "a", 1], ["tell", "b"]], ["if", "b", 1, ["b"], 1, [0]]],
            [["c"], [], ["give", ["c"]]],
        ]
        code = Code(Allocation(Program(blocks), 2, [0, 1, 0]))
        self.assertFalse(lists_in(code.blocks))
        blocks[0][1].clear()
        self.assertEqual(len(code.blocks[0][1]), 2)


class CallTest(unittest.TestCase):
    def test_the_example(self):
        code = Code(first_fit(read_program(EXAMPLE), 3))
        result = code((3, 250))
        self.assertIsInstance(result, Result)
        self.assertEqual(outcome(result), ((), (250,), 8))

    def test_fuel_that_ends_before_and_at_the_end(self):
        p = read_program("block a\ntell a\nb = add a 1\ntell b\ngive b a")
        for allocation in each_allocation(p, 2):
            code = Code(allocation)
            self.assertEqual(outcome(code((3,), 0)), ((), None, 0))
            self.assertEqual(outcome(code((3,), 1)), ((3,), None, 1))
            self.assertEqual(outcome(code((3,), 3)), ((3, 4), None, 3))
            self.assertEqual(outcome(code((3,), 4)), ((3, 4), (4, 3), 4))
            self.assertEqual(outcome(code((3,), 5)), ((3, 4), (4, 3), 4))
            self.assertEqual(outcome(code((3,))), ((3, 4), (4, 3), 4))

    def test_200_units_if_none_are_named(self):
        code = Code(first_fit(read_program(COUNTING), 1))
        self.assertEqual(outcome(code(())), (tuple(range(67)), None, 200))
        self.assertEqual(len(list(code.states(()))), 200)

    def test_2000_units(self):
        p = read_program(COUNTING)
        for size in (1, 2, 40):
            code = Code(first_fit(p, size))
            self.assertEqual(outcome(code((), 2000)), (tuple(range(667)), None, 2000))
            self.assertEqual(len(list(code.states((), 2000))), 2000)

    def test_a_jump_to_its_own_block_with_its_parameters_in_another_order(self):
        p = read_program("block\ngo 1 1 2 3\nblock x y z\ntell x\ntell y\ntell z\ngo 1 y z x")
        for allocation in each_allocation(p, 3):
            self.assertEqual(Code(allocation)((), 12).told, (1, 2, 3, 2, 3, 1, 3, 1, 2))
        p = read_program("block a\ngo 1 a 5\nblock x y\ntell x\nif x 1 y x else 1 y y")
        for size in (2, 3):
            for allocation in each_allocation(p, size):
                self.assertEqual(Code(allocation)((0,), 9).told, (0, 5, 5, 5))
                self.assertEqual(Code(allocation)((9,), 9).told, (9, 5, 9, 5))

    def test_one_code_keeps_nothing_from_one_call_to_the_next(self):
        p = read_program("block a\nif a 1 else 2\nblock\nb = add a 7\ngive b\nblock\ngive a")
        code = Code(first_fit(p, 1))
        for inputs, given in (((5,), (12,)), ((0,), (0,)), ((65535,), (6,)), ((0,), (0,))):
            self.assertEqual(code(inputs).given, given)
        self.assertEqual(code.blocks, Code(first_fit(p, 1)).blocks)

    def test_as_the_program_runs(self):
        for seed in range(200):
            program = made(seed)
            inputs = made_inputs(seed, program)
            whole = run(program, inputs)
            for allocation in allocations_of(seed, program):
                code = Code(allocation)
                with self.subTest(seed=seed, size=allocation.size, registers=allocation.registers):
                    self.assertEqual(outcome(code(inputs)), outcome(whole))
                    for fuel in {0, 1, 7, max(0, whole.spent - 1), whole.spent, 300}:
                        self.assertEqual(outcome(code(inputs, fuel)), outcome(run(program, inputs, fuel)))

    def test_long_runs_of_large_programs(self):
        for seed in range(8):
            program = made_large(seed)
            inputs = made_inputs(seed, program)
            for allocation in allocations_of(seed, program):
                with self.subTest(seed=seed, size=allocation.size):
                    self.assertEqual(outcome(Code(allocation)(inputs, 2000)), outcome(run(program, inputs, 2000)))

    def test_inputs_as_a_list(self):
        inputs = [3, 250]
        code = Code(first_fit(read_program(EXAMPLE), 3))
        self.assertEqual(outcome(code(inputs)), ((), (250,), 8))
        self.assertEqual(len(list(code.states(inputs))), 8)
        self.assertEqual(inputs, [3, 250])

    def test_a_wrong_number_of_inputs(self):
        code = Code(first_fit(read_program(EXAMPLE), 3))
        none = Code(first_fit(read_program(EMPTY), 0))
        for each, inputs in ((code, ()), (code, (1,)), (code, [1, 2, 3]), (none, (0,)), (none, [1, 2])):
            for fuel in (0, 1, 200):
                with self.subTest(inputs=inputs, fuel=fuel):
                    with self.assertRaises(WrongCount) as told:
                        each(inputs, fuel)
                    self.assertEqual(told.exception.block, 0)
                    self.assertIsInstance(told.exception, RegisterError)
                    with self.assertRaises(WrongCount) as told:
                        list(each.states(inputs, fuel))
                    self.assertEqual(told.exception.block, 0)
        self.assertEqual(outcome(code((3, 250))), ((), (250,), 8))

    def test_keywords(self):
        code = Code(allocation=first_fit(read_program(EXAMPLE), 3))
        self.assertEqual(outcome(code(fuel=7, inputs=(3, 250))), ((), None, 7))
        self.assertEqual(len(list(code.states(fuel=7, inputs=(3, 250)))), 7)


class StateTest(unittest.TestCase):
    def test_the_example(self):
        code = Code(Allocation(read_program(EXAMPLE), 4, (1, 0, 2, 0, 1, 1)))
        self.assertEqual(list(code.states((3, 250))), [
            ((0, 0), (250, 3, 0, 0)),
            ((1, 0), (250, 3, 3, 0)),
            ((1, 1), (250, 1, 3, 0)),
            ((2, 0), (250, 1, 3, 0)),
            ((2, 1), (250, 253, 3, 0)),
            ((1, 0), (3, 253, 250, 0)),
            ((1, 1), (3, 0, 250, 0)),
            ((3, 0), (3, 0, 250, 0)),
        ])

    def test_no_registers(self):
        self.assertEqual(list(Code(first_fit(read_program(EMPTY), 0)).states(())), [((0, 0), ()), ((0, 1), ())])

    def test_as_many_pairs_as_units_of_fuel_are_spent(self):
        code = Code(first_fit(read_program(EXAMPLE), 3))
        whole = list(code.states((3, 250)))
        for fuel in range(12):
            self.assertEqual(list(code.states((3, 250), fuel)), whole[:fuel])

    def test_two_by_turns_with_calls_between(self):
        code = Code(first_fit(read_program(EXAMPLE), 3))
        one, other = list(code.states((3, 250))), list(code.states((99, 250)))
        seen = []
        for left, right in zip(code.states((3, 250)), code.states((99, 250))):
            self.assertEqual(code((7, 7)).spent, 200)
            seen.append((left, right))
        self.assertEqual(seen, list(zip(one, other)))
        self.assertEqual(len(seen), 8)

    def test_an_endless_run_can_be_left(self):
        code = Code(first_fit(read_program("block\ngo 1\nblock\ngo 1"), 1))
        seen = []
        for pair in code.states((), 2000):
            seen.append(pair)
            if len(seen) == 3:
                break
        self.assertEqual(seen, [((0, 0), (0,)), ((1, 0), (0,)), ((1, 0), (0,))])

    def check(self, program, allocation, inputs, fuel):
        """The points are those of the trail, and each live variable has its value in its register."""
        states = list(Code(allocation).states(inputs, fuel))
        seen = list(trail(program, inputs, fuel))
        self.assertEqual([point for point, _ in states], [point for point, _ in seen])
        for (point, words), (_, values) in zip(states, seen):
            self.assertIsInstance(words, tuple)
            self.assertEqual(len(words), allocation.size)
            for name in live(program, point):
                self.assertEqual(words[allocation[name]], values[name])

    def test_live_variables_have_their_values_in_their_registers(self):
        for seed in range(150):
            program = made(seed)
            inputs = made_inputs(seed, program)
            for allocation in allocations_of(seed, program):
                with self.subTest(seed=seed, size=allocation.size, registers=allocation.registers):
                    self.check(program, allocation, inputs, 60)

    def test_live_variables_of_large_programs(self):
        for seed in range(4):
            program = made_large(seed)
            for allocation in allocations_of(seed, program):
                with self.subTest(seed=seed, size=allocation.size):
                    self.check(program, allocation, made_inputs(seed, program), 2000)

    def test_forty_registers_that_are_all_needed(self):
        names = [first + second for first in "abcd" for second in "abcdefghij"]
        p = read_program("block " + " ".join(names) + "\ngive " + " ".join(names[::-1]))
        allocation = allocation_at(p, 40, how_many(p, 40) // 3)
        inputs = tuple(range(100, 140))
        self.assertEqual(Code(allocation)(inputs).given, inputs[::-1])
        ((point, words),) = Code(allocation).states(inputs, 1)
        self.assertEqual(point, (0, 0))
        self.assertEqual([words[allocation[name]] for name in names], list(inputs))


if __name__ == "__main__":
    unittest.main()
