"""[44] to [46]: flat code, and the copies that jumps need."""

import itertools
import unittest

from registerways.allocations import Allocation, allocation_at, each_allocation, first_fit, how_many
from registerways.conflicts import fewest
from registerways.copying import in_turn
from registerways.errors import RegisterError, TooFew, TooMany, WrongCount
from registerways.flatcode import Flat, copies_needed, fewest_copies
from registerways.machines import Code
from registerways.running import Result
from registerways.texts import read_program
from tests.making import made, made_inputs, made_large, some_allocations
from tests.samples import EXAMPLE

EMPTY = "block\ntell 1\ngive"
OPERATIONS = ("add", "sub", "mul", "less", "equal")
TURNING = "block\ngo 1 1 2 3\nblock x y z\ntell x\ntell y\ntell z\ngo 1 y z x"


def outcome(result):
    return (result.told, result.given, result.spent)


def allocations_of(seed, program):
    few, _ = fewest(program)
    return [each for size in (few, few + 1, few + 4) for each in some_allocations(seed, program, size, many=1)]


def jumps_of(end):
    """The jumps of an end, as pairs (block, arguments)."""
    return {"give": [], "go": [end[1:3]], "if": [end[2:4], end[4:6]]}[end[0]]


def copies_of(code, jump):
    """How many copies in_turn returns for a jump of a code."""
    block, arguments = jump
    return len(in_turn(tuple(zip(code.blocks[block][0], arguments)), code.size))


def copies_by_definition(allocation):
    """The sum of [46]."""
    code = Code(allocation)
    return sum(copies_of(code, jump) for _, _, end in code.blocks for jump in jumps_of(end))


def walked(rows, registers, fuel):
    """The numbers of the executed rows of a flat program, its told and its given words."""
    words, at, numbers, told = dict(registers), 0, [], []

    def value(operand):
        return operand[1] if operand[0] == "word" else words.get(operand[1], 0)

    while len(numbers) < fuel:
        row = rows[at]
        numbers.append(at)
        at += 1
        if row[0] == "tell":
            told.append(value(row[1]))
        elif row[0] == "give":
            return numbers, tuple(told), tuple(value(x) for x in row[1])
        elif row[0] == "set":
            words[row[1]] = value(row[2])
        elif row[0] == "jump":
            at = row[1]
        elif row[0] == "unless":
            at = row[2] if value(row[1]) == 0 else at
        else:
            x, y = value(row[2]), value(row[3])
            results = {"add": x + y, "sub": x - y, "mul": x * y, "less": int(x < y), "equal": int(x == y)}
            words[row[1]] = results[row[0]] & 0xFFFF
    return numbers, tuple(told), None


def walk(allocation, inputs, fuel):
    """What walked tells of the flat program of an allocation."""
    entry = [allocation[name] for name in allocation.program.blocks[0][0]]
    return walked(Flat(allocation).rows, zip(entry, inputs), fuel)


def executed_jumps(allocation, inputs, fuel):
    """The jumps that the code executes with so much fuel, the last one of which may be left out."""
    code = Code(allocation)
    states = list(code.states(inputs, fuel))
    found = []
    for ((block, at), words), ((target, _), _) in zip(states, states[1:]):
        _, instructions, end = code.blocks[block]
        if at == len(instructions):
            made = jumps_of(end)
            if end[0] == "if":
                kind, tested = end[1]
                made = made[:1] if (words[tested] if kind == "reg" else tested) else made[1:]
            found.append(made[0])
    return found


class RowTest(unittest.TestCase):
    def check_rows(self, flat, allocation):
        """The rows are only of the kinds that [44] lists, and lead to rows."""
        self.assertEqual(flat.size, allocation.size + 1)
        self.assertIsInstance(flat.rows, tuple)
        for row in flat.rows:
            self.assertIsInstance(row, tuple)
            kind, *parts = row
            if kind == "tell":
                operands = parts
                self.assertEqual(len(operands), 1)
            elif kind == "give":
                (operands,) = parts
                self.assertIsInstance(operands, tuple)
            elif kind == "set":
                reg, x = parts
                operands = [x]
                self.assertIn(reg, range(flat.size))
            elif kind == "jump":
                (at,) = parts
                operands = []
                self.assertIn(at, range(len(flat.rows)))
            elif kind == "unless":
                x, at = parts
                operands = [x]
                self.assertIn(at, range(len(flat.rows)))
            else:
                self.assertIn(kind, OPERATIONS)
                reg, *operands = parts
                self.assertEqual(len(operands), 2)
                self.assertIn(reg, range(allocation.size))
            for operand in operands:
                self.assertIsInstance(operand, tuple)
                which, value = operand
                self.assertIn(which, ("word", "reg"))
                self.assertIn(value, range(65536 if which == "word" else flat.size))

    def test_many_programs(self):
        for seed in range(100):
            program = made(seed)
            for allocation in allocations_of(seed, program):
                with self.subTest(seed=seed, registers=allocation.registers):
                    self.check_rows(Flat(allocation), allocation)

    def test_large_programs(self):
        for seed in range(4):
            program = made_large(seed)
            for size in (fewest(program)[0], 40):
                for allocation in some_allocations(seed, program, size):
                    self.check_rows(Flat(allocation), allocation)

    def test_attributes(self):
        for size in (3, 4, 40):
            flat = Flat(first_fit(read_program(EXAMPLE), size))
            self.assertEqual(flat.size, size + 1)
            self.check_rows(flat, first_fit(read_program(EXAMPLE), size))
        self.assertEqual(Flat(first_fit(read_program(EMPTY), 0)).size, 1)
        self.assertEqual(Flat(first_fit(read_program(EMPTY), 0)).rows, (("tell", ("word", 1)), ("give", ())))

    def test_the_row_give_has_the_operands_of_the_end(self):
        flat = Flat(Allocation(read_program("block a b\ngive b 5 a b"), 2, (0, 1)))
        self.assertEqual(flat.rows, (("give", (("reg", 1), ("word", 5), ("reg", 0), ("reg", 1))),))


class CallTest(unittest.TestCase):
    def compare(self, allocation, inputs):
        """The flat program tells and gives what the code does, in time and with as many rows "set" as are needed."""
        size = allocation.size
        flat = Flat(allocation)
        code = Code(allocation)(inputs, 300)
        result = flat(inputs, 40000 if code.given is not None else 900)
        numbers, told, given = walk(allocation, inputs, result.spent)
        self.assertEqual(outcome(result), (told, given, len(numbers)))
        kinds = [flat.rows[at][0] for at in numbers]
        needed = [copies_of(Code(allocation), jump) for jump in executed_jumps(allocation, inputs, 300)]
        sets = [len(list(group)) for kind, group in itertools.groupby(kinds) if kind == "set"]
        if code.given is not None:
            self.assertEqual((told, given), (code.told, code.given))
            self.assertLessEqual(result.spent, (2 * size + 4) * code.spent)
            self.assertEqual(kinds[-1], "give")
            self.assertEqual(sum(sets), sum(needed))
            self.assertEqual(sets, [many for many in needed if many])
        else:
            self.assertIsNone(given)
            self.assertEqual(result.spent, 900)
            shorter = min(len(told), len(code.told))
            self.assertEqual(told[:shorter], code.told[:shorter])
            # The last jump may not be a whole one.
            together = [many for many in needed if many]
            shorter = max(0, min(len(sets), len(together)) - 1)
            self.assertEqual(sets[:shorter], together[:shorter])
        return code.given is not None

    def test_many_programs(self):
        ended = []
        for seed in range(120):
            program = made(seed)
            inputs = made_inputs(seed, program)
            for allocation in allocations_of(seed, program):
                with self.subTest(seed=seed, size=allocation.size, registers=allocation.registers):
                    ended.append(self.compare(allocation, inputs))
        self.assertIn(True, ended)
        self.assertIn(False, ended)

    def test_large_programs(self):
        for seed in range(10):
            program = made_large(seed)
            for allocation in allocations_of(seed, program):
                with self.subTest(seed=seed, size=allocation.size):
                    self.compare(allocation, made_inputs(seed, program))

    def test_all_allocations_of_a_ring(self):
        p = read_program(
            "block n\ngo 1 n 1 2 3\nblock i x y z\ntell x\nif i 2 else 3\n"
            "block\nj = sub i 1\ngo 1 j y z x\nblock\ngive x y z"
        )
        for allocation in each_allocation(p, 4):
            self.compare(allocation, (7,))
        for number in range(0, how_many(p, 6), 97):
            self.compare(allocation_at(p, 6, number), (7,))

    def test_the_example(self):
        flat = Flat(first_fit(read_program(EXAMPLE), 3))
        result = flat((3, 250))
        self.assertIsInstance(result, Result)
        self.assertEqual((result.told, result.given), ((), (250,)))
        self.assertLessEqual(result.spent, 10 * 8)

    def test_an_end_if_whose_jumps_lead_to_one_block(self):
        p = read_program("block a\nif a 1 a 10 else 1 20 a\nblock x y\ngive x y")
        for allocation in each_allocation(p, 2):
            self.assertEqual(Flat(allocation)((4,)).given, (4, 10))
            self.assertEqual(Flat(allocation)((0,)).given, (20, 0))
            self.compare(allocation, (4,))
            self.compare(allocation, (0,))

    def test_an_end_if_with_a_word(self):
        text = "block\nif {} 1 5 else 1 6\nblock x\ngive x"
        for word, given in ((0, 6), (1, 5), (65535, 5)):
            self.assertEqual(Flat(first_fit(read_program(text.format(word)), 1))(()).given, (given,))

    def test_the_tested_word_is_taken_before_it_is_overwritten(self):
        p = read_program("block\ngo 1 0 1\nblock x y\ntell x\nif x 2 else 1 y x\nblock\ngive x y")
        for allocation in each_allocation(p, 2):
            result = Flat(allocation)(())
            self.assertEqual((result.told, result.given), ((0, 1), (1, 0)))

    def test_a_block_that_jumps_to_itself(self):
        p = read_program(TURNING)
        for allocation in each_allocation(p, 3):
            flat = Flat(allocation)
            told = flat((), 40000).told
            self.assertEqual(told, ((1, 2, 3, 2, 3, 1, 3, 1, 2) * len(told))[:len(told)])
            self.assertEqual(flat((), 40000).spent, 40000)
            self.assertFalse(self.compare(allocation, ()))
        bare = Flat(first_fit(read_program("block\ngo 1\nblock\ngo 1"), 0))
        self.assertEqual(outcome(bare((), 40000)), ((), None, 40000))

    def test_fuel(self):
        p = read_program(EXAMPLE)
        for allocation in each_allocation(p, 3):
            flat = Flat(allocation)
            numbers, told, given = walk(allocation, (3, 250), 40000)
            self.assertEqual(given, (250,))
            many = len(numbers)
            self.assertEqual(outcome(flat((3, 250), 0)), ((), None, 0))
            self.assertEqual(outcome(flat((3, 250), 1)), ((), None, 1))
            self.assertEqual(outcome(flat((3, 250), many - 1)), ((), None, many - 1))
            self.assertEqual(outcome(flat((3, 250), many)), ((), (250,), many))
            self.assertEqual(outcome(flat((3, 250), many + 1)), ((), (250,), many))
            self.assertEqual(outcome(flat((3, 250), 40000)), ((), (250,), many))
            self.assertEqual(outcome(flat((3, 250))), ((), (250,), many))

    def test_fuel_of_a_program_that_tells(self):
        flat = Flat(first_fit(read_program("block a\ntell a\nb = add a 1\ntell b\ngive b a"), 2))
        self.assertEqual(outcome(flat((3,), 0)), ((), None, 0))
        self.assertEqual(outcome(flat((3,), 1)), ((3,), None, 1))
        self.assertEqual(outcome(flat((3,), 2)), ((3,), None, 2))
        self.assertEqual(outcome(flat((3,), 3)), ((3, 4), None, 3))
        self.assertEqual(outcome(flat((3,), 4)), ((3, 4), (4, 3), 4))
        self.assertEqual(outcome(flat((3,), 5)), ((3, 4), (4, 3), 4))

    def test_2000_units_if_none_are_named(self):
        self.assertEqual(Flat(first_fit(read_program(TURNING), 3))(()).spent, 2000)

    def test_more_fuel_than_a_code_may_get(self):
        text = "block n\ngo 1 n 1 2\nblock i x y\nif i 2 else 3\nblock\nj = sub i 1\ngo 1 j y x\nblock\ngive x y"
        p = read_program(text)
        spent = 1 + 4 * 1500 + 2
        for number in (0, how_many(p, 3) // 2, how_many(p, 3) - 1):
            allocation = allocation_at(p, 3, number)
            self.assertEqual(Code(allocation)((1500,), 2000).given, None)
            result = Flat(allocation)((1500,), 40000)
            self.assertEqual(result.given, (1, 2))
            self.assertLessEqual(result.spent, (2 * 3 + 4) * spent)

    def test_registers_are_0_at_the_beginning_of_each_call(self):
        flat = Flat(first_fit(read_program("block a\nif a 1 else 2\nblock\nb = add a 7\ngive b\nblock\ngive a"), 1))
        for inputs, given in (((5,), (12,)), ((0,), (0,)), ((65535,), (6,)), ((0,), (0,))):
            self.assertEqual(flat(inputs).given, given)

    def test_a_wrong_number_of_inputs(self):
        flat = Flat(first_fit(read_program(EXAMPLE), 3))
        none = Flat(first_fit(read_program(EMPTY), 0))
        for each, inputs in ((flat, ()), (flat, (1,)), (flat, [1, 2, 3]), (none, (0,)), (none, [1, 2])):
            for fuel in (0, 1, 2000):
                with self.assertRaises(WrongCount) as told:
                    each(inputs, fuel)
                self.assertEqual(told.exception.block, 0)
                self.assertIsInstance(told.exception, RegisterError)

    def test_inputs_as_a_list(self):
        inputs = [3, 250]
        self.assertEqual(Flat(first_fit(read_program(EXAMPLE), 3))(inputs).given, (250,))
        self.assertEqual(inputs, [3, 250])

    def test_keywords(self):
        flat = Flat(allocation=first_fit(read_program(EXAMPLE), 3))
        self.assertEqual(flat(fuel=2, inputs=(3, 250)).spent, 2)


class CopiesTest(unittest.TestCase):
    def test_the_example(self):
        p = read_program(EXAMPLE)
        self.assertEqual(copies_needed(first_fit(p, 3)), 3)
        self.assertEqual(copies_needed(Allocation(p, 3, (1, 0, 0, 1, 2, 2))), 6)
        self.assertEqual(copies_needed(Allocation(p, 3, (1, 2, 0, 1, 2, 2))), 5)

    def test_both_jumps_of_an_if(self):
        p = read_program("block a b\nif a 1 b a else 1 a 0\nblock x y\ngive x y")
        self.assertEqual(copies_needed(Allocation(p, 2, (0, 1, 0, 1))), 3 + 1)
        self.assertEqual(copies_needed(Allocation(p, 2, (0, 1, 1, 0))), 0 + 2)
        self.assertEqual(copies_needed(Allocation(p, 3, (0, 1, 0, 2))), 2 + 1)

    def test_no_jumps(self):
        self.assertEqual(copies_needed(first_fit(read_program(EMPTY), 0)), 0)
        self.assertEqual(copies_needed(first_fit(read_program("block a\nb = add a 1\ngive b"), 1)), 0)
        self.assertEqual(copies_needed(first_fit(read_program("block\nif 1 1 else 1\nblock\ngo 1"), 0)), 0)

    def test_many_programs(self):
        for seed in range(150):
            program = made(seed)
            for allocation in allocations_of(seed, program):
                with self.subTest(seed=seed, registers=allocation.registers):
                    self.assertEqual(copies_needed(allocation), copies_by_definition(allocation))

    def test_keywords(self):
        self.assertEqual(copies_needed(allocation=first_fit(read_program(EXAMPLE), 3)), 3)


class FewestTest(unittest.TestCase):
    def test_the_example(self):
        p = read_program(EXAMPLE)
        self.assertEqual(fewest_copies(p, 3), (3, 0))
        self.assertIsInstance(fewest_copies(p, 3), tuple)

    def test_the_first_of_several_that_are_not_the_first_allocation(self):
        p = read_program("block a b\ngo 1 b a\nblock x y\ngive x y")
        sums = [copies_needed(each) for each in each_allocation(p, 3)]
        self.assertEqual(fewest_copies(p, 3), (0, sums.index(0)))
        self.assertGreater(sums.index(0), 0)
        self.assertGreater(sums.count(0), 1)

    def test_all_allocations_of_small_programs(self):
        looked_at = 0
        for seed in range(200):
            program = made(seed, most_blocks=4, most_parameters=3, most_instructions=2)
            few, _ = fewest(program)
            for size in (few, few + 1):
                if how_many(program, size) <= 120:
                    looked_at += 1
                    sums = [copies_by_definition(each) for each in each_allocation(program, size)]
                    with self.subTest(seed=seed, size=size):
                        self.assertEqual(fewest_copies(program, size), (min(sums), sums.index(min(sums))))
        self.assertGreater(looked_at, 60)

    def test_too_few(self):
        p = read_program(EXAMPLE)
        for size in (0, 1, 2):
            with self.assertRaises(TooFew) as told:
                fewest_copies(p, size)
            self.assertEqual(told.exception.size, size)
            self.assertIsInstance(told.exception, RegisterError)
        for seed in range(5):
            large = made_large(seed)
            size = fewest(large)[0] - 1
            with self.assertRaises(TooFew) as told:
                fewest_copies(large, size)
            self.assertEqual(told.exception.size, size)

    def test_500_allocations_and_more(self):
        p = read_program("block a b\ngo 1 b\nblock c\nd = add c 1\ngive d")
        self.assertEqual(how_many(p, 5), 500)
        sums = [copies_by_definition(each) for each in each_allocation(p, 5)]
        self.assertEqual(fewest_copies(p, 5), (min(sums), sums.index(min(sums))))
        for size in (6, 40):
            with self.assertRaises(TooMany) as told:
                fewest_copies(p, size)
            self.assertEqual(told.exception.number, how_many(p, size))
            self.assertIsInstance(told.exception, RegisterError)
        q = read_program("block a b\ngive")
        self.assertEqual(fewest_copies(q, 22), (0, 0))
        with self.assertRaises(TooMany) as told:
            fewest_copies(q, 23)
        self.assertEqual(told.exception.number, 506)

    def test_no_variables(self):
        self.assertEqual(fewest_copies(read_program(EMPTY), 0), (0, 0))
        self.assertEqual(fewest_copies(read_program(EMPTY), 40), (0, 0))

    def test_keywords(self):
        self.assertEqual(fewest_copies(size=3, program=read_program(EXAMPLE)), (3, 0))


if __name__ == "__main__":
    unittest.main()
