"""[24] to [27], and of [2] that allocations are counted and numbered: allocations and their numbers."""

import itertools
import operator
import unittest

from registerways.allocations import Allocation, allocation_at, each_allocation, first_fit, how_many
from registerways.conflicts import conflict, earlier, fewest
from registerways.errors import BadRegister, Conflict, NoNumber, NoVariable, RegisterError, TooFew
from registerways.programs import Program
from registerways.texts import program_text, read_program
from tests import oracles
from tests.making import made
from tests.samples import EXAMPLE

EMPTY = "block\ntell 1\ngive"
WIDE = "block\n" + "\n".join(f"v{first}{second} = add 1 1" for first in "abcdefg" for second in "stuvwxy") + "\ngive"


def small_programs(most_variables):
    """Generated programs with few variables, so that all allocations can be listed."""
    for seed in range(300):
        program = made(seed, most_blocks=4, most_parameters=2, most_instructions=2)
        if len(program) <= most_variables:
            yield seed, program


def all_registers(program, size):
    """What each allocation is made of, in ascending order, found by trying everything."""
    return oracles.allocations(program.order, oracles.conflicts(program.blocks), size)


class MakingTest(unittest.TestCase):
    def setUp(self):
        self.p = read_program(EXAMPLE)

    def refused(self, error, registers, size=3, program=None):
        with self.assertRaises(error) as told:
            Allocation(self.p if program is None else program, size, registers)
        self.assertIsInstance(told.exception, RegisterError)
        return told.exception

    def test_attributes(self):
        a = Allocation(self.p, 3, (1, 0, 2, 0, 1, 1))
        self.assertIs(a.program, self.p)
        self.assertEqual((a.size, a.registers), (3, (1, 0, 2, 0, 1, 1)))

    def test_more_registers_than_are_needed(self):
        self.assertEqual(Allocation(self.p, 40, (39, 0, 2, 38, 39, 17)).registers, (39, 0, 2, 38, 39, 17))

    def test_a_missing_entry(self):
        self.assertEqual(self.refused(BadRegister, ()).name, "a")
        self.assertEqual(self.refused(BadRegister, (0,)).name, "b")
        self.assertEqual(self.refused(BadRegister, (0, 1, 0, 1, 2)).name, "z")

    def test_an_entry_that_is_no_register(self):
        for wrong in (-1, 3, 4, 40, -3, 10 ** 70, -10 ** 70, None, "0", "a", True, False, (), (0,), [1]):
            for at in range(6):
                registers = [0, 1, 0, 1, 2, 2]
                registers[at] = wrong
                with self.subTest(wrong=wrong, at=at):
                    self.assertEqual(self.refused(BadRegister, registers).name, self.p.order[at])

    def test_the_first_entry_that_is_no_register(self):
        self.assertEqual(self.refused(BadRegister, (0, 1, 3, 1, -1, 2)).name, "x")
        self.assertEqual(self.refused(BadRegister, (0, 1, 3)).name, "x")

    def test_the_size_0(self):
        self.assertEqual(self.refused(BadRegister, (0, 0, 0, 0, 0, 0), 0).name, "a")
        self.assertEqual(self.refused(BadRegister, (), 0).name, "a")
        self.assertEqual(Allocation(read_program(EMPTY), 0, ()).registers, ())

    def test_too_many_entries(self):
        self.assertIsNone(self.refused(BadRegister, (0, 1, 0, 1, 2, 2, 0)).name)
        self.assertIsNone(self.refused(BadRegister, [0, 1, 0, 1, 2, 2, 9, 9]).name)
        for size in (0, 3):
            self.assertIsNone(self.refused(BadRegister, (0,), size, read_program(EMPTY)).name)

    def test_conflicts(self):
        told = self.refused(Conflict, (0, 0, 0, 1, 2, 2))
        self.assertEqual((told.first, told.second), ("a", "b"))
        told = self.refused(Conflict, (0, 1, 0, 1, 1, 2))
        self.assertEqual((told.first, told.second), ("y", "t"))
        told = self.refused(Conflict, (0, 1, 0, 1, 2, 0))
        self.assertEqual((told.first, told.second), ("x", "z"))

    def test_the_first_conflict_is_that_of_the_first_second_variable(self):
        told = self.refused(Conflict, (0, 1, 2, 2, 2, 2))
        self.assertEqual((told.first, told.second), ("x", "y"))
        told = self.refused(Conflict, (0, 1, 0, 1, 1, 0))
        self.assertEqual((told.first, told.second), ("y", "t"))

    def test_bad_registers_come_before_conflicts(self):
        self.assertEqual(self.refused(BadRegister, (0, 0, 0, 1, 2, 3)).name, "z")
        self.assertEqual(self.refused(BadRegister, (0, 0, 0, 1, 2)).name, "z")
        self.assertIsNone(self.refused(BadRegister, (0, 0, 0, 0, 0, 0, 0)).name)

    def test_a_wrong_entry_comes_before_too_many(self):
        self.assertEqual(self.refused(BadRegister, (0, 1, 0, 1, 2, 3, 0)).name, "z")

    def test_all_entries_of_small_programs(self):
        for seed, program in small_programs(4):
            for size in range(4):
                for registers in itertools.product(range(-1, size + 1), repeat=len(program)):
                    with self.subTest(seed=seed, size=size, registers=registers):
                        self.compare(program, size, registers)

    def compare(self, program, size, registers):
        for name, entry in zip(program.order, registers):
            if entry not in range(size):
                self.assertEqual(self.refused(BadRegister, registers, size, program).name, name)
                return
        for at, second in enumerate(program.order):
            for before, first in enumerate(program.order[:at]):
                if registers[before] == registers[at] and conflict(program, first, second):
                    told = self.refused(Conflict, registers, size, program)
                    self.assertEqual((told.first, told.second), (first, second))
                    return
        self.assertEqual(Allocation(program, size, registers).registers, registers)


class ItemTest(unittest.TestCase):
    def test_the_register_of_a_variable(self):
        a = Allocation(read_program(EXAMPLE), 3, (1, 0, 2, 0, 1, 1))
        self.assertEqual([a[name] for name in "abxytz"], [1, 0, 2, 0, 1, 1])

    def test_the_order_is_not_that_of_the_numbers_of_blocks(self):
        p = read_program("block\ngo 2 1\nblock\nb = add a 1\ngive b a\nblock a\ngo 1")
        a = Allocation(p, 3, (2, 0))
        self.assertEqual((a["a"], a["b"]), (2, 0))

    def test_no_variable(self):
        a = first_fit(read_program(EXAMPLE), 3)
        for name in ("c", "zz", "A", "", "tell", "ab", "x "):
            with self.subTest(name=name):
                with self.assertRaises(NoVariable) as told:
                    a[name]
                self.assertEqual(told.exception.name, name)
        with self.assertRaises(NoVariable):
            first_fit(read_program(EMPTY), 0)["a"]


class ComparingTest(unittest.TestCase):
    def compare(self, one, other):
        left, right = (one.size, one.registers), (other.size, other.registers)
        self.assertIs(one == other, left == right)
        self.assertIs(one != other, left != right)
        self.assertIs(one < other, left < right)
        self.assertIs(one <= other, left <= right)
        self.assertIs(one > other, left > right)
        self.assertIs(one >= other, left >= right)
        # Python asks the other one's method if one says nothing, so each is asked by itself.
        own = vars(Allocation)
        self.assertIs(own["__eq__"](one, other), left == right)
        self.assertIs(own["__lt__"](one, other), left < right)
        self.assertIs(own["__le__"](one, other), left <= right)
        self.assertIs(own["__gt__"](one, other), left > right)
        self.assertIs(own["__ge__"](one, other), left >= right)

    def test_all_of_two_sizes(self):
        p = read_program("block a b\nc = add a 1\ngive c")
        found = [each for size in (2, 3) for each in each_allocation(p, size)]
        for one in found:
            for other in found:
                self.compare(one, other)

    def test_equal_ones_are_not_the_same_object(self):
        p = read_program(EXAMPLE)
        one, other = first_fit(p, 3), Allocation(read_program(EXAMPLE), 3, [0, 1, 0, 1, 2, 2])
        self.assertIsNot(one, other)
        self.compare(one, other)
        self.assertTrue(one == other)
        self.assertFalse(one != other)

    def test_the_size_comes_first(self):
        p = read_program("block a b\ngive a b")
        self.assertTrue(Allocation(p, 2, (1, 0)) < Allocation(p, 3, (0, 1)))
        self.assertTrue(Allocation(p, 3, (0, 1)) > Allocation(p, 2, (1, 0)))
        self.assertFalse(Allocation(p, 2, (0, 1)) == Allocation(p, 3, (0, 1)))
        self.assertTrue(Allocation(p, 2, (0, 1)) != Allocation(p, 3, (0, 1)))

    def test_registers_are_compared_as_tuples(self):
        p = read_program("block a b\ngive a b")
        self.assertTrue(Allocation(p, 12, (2, 11)) < Allocation(p, 12, (10, 0)))
        self.assertTrue(Allocation(p, 12, (2, 9)) < Allocation(p, 12, (2, 10)))

    def test_no_variables(self):
        p = read_program(EMPTY)
        self.compare(Allocation(p, 0, ()), Allocation(p, 0, ()))
        self.compare(Allocation(p, 0, ()), Allocation(p, 1, ()))

    def test_something_else_is_not_equal(self):
        a = first_fit(read_program(EXAMPLE), 3)
        for other in (None, 0, a.registers, "a"):
            self.assertFalse(a == other)
            self.assertTrue(a != other)


    def test_something_else_has_no_place_among_them(self):
        a = first_fit(read_program(EXAMPLE), 3)
        for compare in (operator.lt, operator.le, operator.gt, operator.ge):
            with self.assertRaises(TypeError):
                compare(a, a.registers)

    def test_they_can_be_sorted(self):
        p = read_program(EXAMPLE)
        found = list(each_allocation(p, 3))
        self.assertEqual([each.rank for each in sorted(found[::-1])], list(range(36)))
        self.assertEqual((min(found[::-1]).rank, max(found).rank), (0, 35))

    def test_an_allocation_is_not_iterated_over(self):
        with self.assertRaises(TypeError):
            list(first_fit(read_program(EXAMPLE), 3))


class CountingTest(unittest.TestCase):
    def test_the_example(self):
        p = read_program(EXAMPLE)
        self.assertEqual([how_many(p, size) for size in range(5)], [0, 0, 0, 36, 12 * 12 * 2 * 2])

    def test_no_variables(self):
        p = read_program(EMPTY)
        for size in (0, 1, 40):
            self.assertEqual(how_many(p, size), 1)

    def test_the_size_0(self):
        self.assertEqual(how_many(read_program("block a\ngive"), 0), 0)
        self.assertEqual(how_many(read_program("block a\ngive"), 1), 1)

    def test_two_factors_below_0_do_not_make_a_number_above_it(self):
        p = read_program("block a b c d\ngive a b c d")
        self.assertEqual([how_many(p, size) for size in range(6)], [0, 0, 0, 0, 24, 120])

    def test_large_numbers(self):
        self.assertEqual(how_many(read_program(WIDE), 40), 40 ** 49)
        order = "".join(" " + letter for letter in "abcdefghijklmnopqrstuvwxyz")
        product = 1
        for number in range(40, 14, -1):
            product *= number
        self.assertEqual(how_many(read_program("block" + order + "\ngive"), 40), product)

    def test_all_of_small_programs(self):
        for seed, program in small_programs(5):
            for size in range(5):
                with self.subTest(seed=seed, size=size):
                    self.assertEqual(how_many(program, size), len(all_registers(program, size)))

    def test_the_product_and_the_fewest(self):
        for seed in range(200):
            program = made(seed)
            few, _ = fewest(program)
            for size in (0, few - 1, few, few + 1, 40):
                if size >= 0:
                    product = 1
                    for name in program.order:
                        product *= max(0, size - len(earlier(program, name)))
                    with self.subTest(seed=seed, size=size):
                        self.assertEqual(how_many(program, size), product)
                        self.assertIs(product > 0, size >= few)


class NumberingTest(unittest.TestCase):
    def test_the_example(self):
        p = read_program(EXAMPLE)
        self.assertEqual(allocation_at(p, 3, 0).registers, (0, 1, 0, 1, 2, 2))
        self.assertEqual(allocation_at(p, 3, 1).registers, (0, 1, 0, 2, 1, 1))
        self.assertEqual(allocation_at(p, 3, 35).registers, (2, 1, 2, 1, 0, 0))
        self.assertEqual(Allocation(p, 3, (1, 0, 2, 0, 1, 1)).rank, 16)

    def test_all_of_small_programs(self):
        for seed, program in small_programs(5):
            for size in range(5):
                found = all_registers(program, size)
                with self.subTest(seed=seed, size=size):
                    made_ones = [allocation_at(program, size, number) for number in range(len(found))]
                    self.assertEqual([each.registers for each in made_ones], found)
                    self.assertEqual([each.size for each in made_ones], [size] * len(found))
                    self.assertEqual([each.rank for each in made_ones], list(range(len(found))))
                    self.assertEqual([Allocation(program, size, each).rank for each in found], list(range(len(found))))

    def test_the_rank_depends_on_the_size(self):
        p = read_program("block a b\ngive a b")
        self.assertEqual(Allocation(p, 2, (1, 0)).rank, 1)
        self.assertEqual(Allocation(p, 3, (1, 0)).rank, 2)
        self.assertEqual(Allocation(p, 40, (1, 0)).rank, 39)

    def test_numbers_of_seventy_digits(self):
        p = read_program(WIDE)
        for number in (10 ** 69, 7 * 10 ** 69 + 12345, 40 ** 49 - 1, 40 ** 43, 40 ** 43 - 1):
            a = allocation_at(p, 40, number)
            digits = []
            for _ in range(49):
                number, digit = divmod(number, 40)
                digits.append(digit)
            self.assertEqual(a.registers, tuple(digits[::-1]))
        self.assertEqual(allocation_at(p, 40, 7 * 10 ** 69 + 12345).rank, 7 * 10 ** 69 + 12345)

    def test_numbers_between_the_first_and_the_last_one(self):
        for seed in range(200):
            program = made(seed)
            few, _ = fewest(program)
            for size in (few, few + 1, few + 5, 40):
                number = how_many(program, size)
                for each in {0, number // 3, number // 2, number - 1}:
                    with self.subTest(seed=seed, size=size, number=each):
                        a = allocation_at(program, size, each)
                        self.assertEqual((a.rank, a.size), (each, size))
                        if each > 0:
                            self.assertTrue(allocation_at(program, size, each - 1) < a)

    def test_no_number(self):
        p = read_program(EXAMPLE)
        for size, number in (
            (3, -1), (3, 36), (3, 37), (3, 10 ** 69), (3, -10 ** 69), (2, 0), (0, 0), (0, -1), (40, how_many(p, 40)),
        ):
            with self.subTest(size=size, number=number):
                with self.assertRaises(NoNumber) as told:
                    allocation_at(p, size, number)
                self.assertEqual(told.exception.number, number)
                self.assertIsInstance(told.exception, RegisterError)

    def test_no_variables(self):
        p = read_program(EMPTY)
        for size in (0, 40):
            self.assertEqual((allocation_at(p, size, 0).registers, allocation_at(p, size, 0).rank), ((), 0))
            for number in (-1, 1):
                with self.assertRaises(NoNumber):
                    allocation_at(p, size, number)


class FirstFitTest(unittest.TestCase):
    def test_the_example(self):
        p = read_program(EXAMPLE)
        self.assertEqual(first_fit(p, 3).registers, (0, 1, 0, 1, 2, 2))
        self.assertEqual(first_fit(p, 40).registers, (0, 1, 0, 1, 2, 2))
        self.assertEqual((first_fit(p, 40).size, first_fit(p, 40).rank), (40, 0))

    def test_too_few(self):
        p = read_program(EXAMPLE)
        for size in (0, 1, 2):
            with self.assertRaises(TooFew) as told:
                first_fit(p, size)
            self.assertEqual(told.exception.size, size)
            self.assertIsInstance(told.exception, RegisterError)

    def test_the_fewest_are_enough_and_one_less_is_not(self):
        for seed in range(200):
            program = made(seed)
            few, _ = fewest(program)
            with self.subTest(seed=seed):
                a = first_fit(program, few)
                self.assertEqual((a.rank, a.size), (0, few))
                self.assertEqual(first_fit(program, 40).registers, a.registers)
                if few > 0:
                    with self.assertRaises(TooFew) as told:
                        first_fit(program, few - 1)
                    self.assertEqual(told.exception.size, few - 1)

    def test_each_variable_gets_the_least_register_that_is_left(self):
        for seed in range(100):
            program = made(seed)
            a = first_fit(program, 40)
            for name in program.order:
                taken = [a[x] for x in earlier(program, name)]
                self.assertEqual(a[name], min(reg for reg in range(40) if reg not in taken))

    def test_no_variables(self):
        self.assertEqual(first_fit(read_program(EMPTY), 0).registers, ())


class EachTest(unittest.TestCase):
    def test_all_of_small_programs(self):
        for seed, program in small_programs(4):
            for size in range(5):
                found = all_registers(program, size)
                with self.subTest(seed=seed, size=size):
                    self.assertEqual([each.registers for each in each_allocation(program, size)], found)
                    for start in (0, 1, len(found) // 2, len(found), len(found) + 1):
                        given = [each.registers for each in each_allocation(program, size, start)]
                        self.assertEqual(given, found[start:])

    def test_from_a_number_on(self):
        p = read_program(EXAMPLE)
        self.assertEqual([each.rank for each in each_allocation(p, 3, 30)], list(range(30, 36)))
        self.assertEqual([each.rank for each in each_allocation(p, 3, 35)], [35])

    def test_a_start_behind_the_last_number(self):
        p = read_program(EXAMPLE)
        for start in (36, 37, 10 ** 69):
            self.assertEqual(list(each_allocation(p, 3, start)), [])
        for size in (0, 2):
            self.assertEqual(list(each_allocation(p, size)), [])

    def test_one_by_one(self):
        p = read_program(WIDE)
        for start in (0, 10 ** 69, 40 ** 49 - 3):
            given = list(itertools.islice(each_allocation(p, 40, start), 3))
            self.assertEqual([each.rank for each in given], [start, start + 1, start + 2])
        self.assertEqual(len(list(each_allocation(p, 40, 40 ** 49 - 3))), 3)

    def test_no_variables(self):
        p = read_program(EMPTY)
        self.assertEqual([each.registers for each in each_allocation(p, 0)], [()])
        self.assertEqual(list(each_allocation(p, 0, 1)), [])

    def test_they_are_allocations_of_the_program(self):
        p = read_program(EXAMPLE)
        for each in each_allocation(p, 3):
            self.assertIsInstance(each, Allocation)
            self.assertIs(each.program, p)
            self.assertEqual(each.size, 3)


class ConventionTest(unittest.TestCase):
    def test_lists(self):
        p = read_program(EXAMPLE)
        registers = [1, 0, 2, 0, 1, 1]
        a = Allocation(p, 3, registers)
        registers[0] = 0
        registers.append(7)
        self.assertEqual((a.registers, a.rank, a["a"]), ((1, 0, 2, 0, 1, 1), 16, 1))
        self.assertIsInstance(a.registers, tuple)
        self.assertEqual(registers, [0, 0, 2, 0, 1, 1, 7])

    def test_keywords(self):
        p = read_program(EXAMPLE)
        self.assertEqual(Allocation(program=p, size=3, registers=(0, 1, 0, 1, 2, 2)).rank, 0)
        self.assertEqual(how_many(program=p, size=3), 36)
        self.assertEqual(allocation_at(program=p, size=3, number=16).rank, 16)
        self.assertEqual(first_fit(program=p, size=3).rank, 0)
        self.assertEqual(len(list(each_allocation(program=p, size=3, start=30))), 6)

    def test_later_changes_of_the_lists_of_a_program_have_no_effect(self):
        blocks = [[["a", "b"], [["c", "add", "a", 1]], ["give", ["b", "c"]]]]
        p = Program(blocks)
        a = first_fit(p, 2)
        blocks[0][0].pop()
        blocks[0][2][1].clear()
        self.assertEqual((a.registers, a.rank, how_many(p, 2)), ((0, 1, 0), 0, 2))
        self.assertEqual([each.registers for each in each_allocation(p, 2)], [(0, 1, 0), (1, 0, 1)])

    def test_an_error_changes_nothing(self):
        p = read_program(EXAMPLE)
        a = first_fit(p, 3)
        for call in (
            lambda: a["q"], lambda: Allocation(p, 3, (0, 0, 0, 0, 0, 0)), lambda: first_fit(p, 2),
            lambda: allocation_at(p, 3, 36),
        ):
            with self.assertRaises(RegisterError):
                call()
        self.assertEqual((a.registers, a.rank, a.size), ((0, 1, 0, 1, 2, 2), 0, 3))
        self.assertEqual(program_text(p), EXAMPLE)
        self.assertEqual(how_many(p, 3), 36)


if __name__ == "__main__":
    unittest.main()
