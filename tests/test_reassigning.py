"""[34] to [37], and of [2] that reassignments connect all allocations if there is a register to spare."""

import itertools
import unittest

from registerways.allocations import Allocation, allocation_at, each_allocation, first_fit, how_many
from registerways.conflicts import fewest
from registerways.errors import NoRegister, NoSpare, NotAkin, NoVariable, RegisterError, Taken
from registerways.programs import Program
from registerways.reassigning import free_registers, reassign_way, reassigned
from registerways.shapes import realized
from registerways.texts import read_program
from tests import oracles
from tests.making import made, made_conflicts, made_large, some_allocations
from tests.samples import EXAMPLE

EMPTY = "block\ntell 1\ngive"


def both_ways(pairs):
    return set(pairs) | {(y, x) for x, y in pairs}


def allocations_of(seed, program):
    few, _ = fewest(program)
    return [each for size in (few, few + 1, few + 3) for each in some_allocations(seed, program, size, many=1)]


class ReassignedTest(unittest.TestCase):
    def test_the_example(self):
        a = first_fit(read_program(EXAMPLE), 3)
        self.assertEqual(reassigned(a, "a", 2).registers, (2, 1, 0, 1, 2, 2))
        self.assertEqual(a.registers, (0, 1, 0, 1, 2, 2))

    def test_its_own_register(self):
        a = first_fit(read_program(EXAMPLE), 3)
        for name in a.program.order:
            self.assertEqual(reassigned(a, name, a[name]), a)

    def test_each_variable_with_each_register(self):
        for seed in range(60):
            program = made(seed)
            pairs = oracles.conflicts(program.blocks)
            for allocation in allocations_of(seed, program):
                for name in program.order:
                    with self.subTest(seed=seed, registers=allocation.registers, name=name):
                        self.check(allocation, name, pairs)

    def check(self, allocation, name, pairs):
        """All that [34] and [35] say of one variable."""
        program, before = allocation.program, allocation.registers
        free = []
        for reg in range(allocation.size):
            others = [x for x in program.order if (x, name) in pairs and allocation[x] == reg]
            if others:
                with self.assertRaises(Taken) as told:
                    reassigned(allocation, name, reg)
                self.assertEqual(told.exception.other, others[0])
                self.assertIsInstance(told.exception, RegisterError)
                continue
            after = reassigned(allocation, name, reg)
            self.assertIsInstance(after, Allocation)
            self.assertEqual((after.size, after.program.blocks), (allocation.size, program.blocks))
            self.assertEqual(after.registers, tuple(reg if x == name else allocation[x] for x in program.order))
            self.assertIs(after == allocation, reg == allocation[name])
            if reg != allocation[name]:
                free.append(reg)
        self.assertEqual(free_registers(allocation, name), tuple(free))
        self.assertEqual(allocation.registers, before)

    def test_large_programs(self):
        for seed in range(3):
            program = made_large(seed)
            pairs = oracles.conflicts(program.blocks)
            for size in (fewest(program)[0], 40):
                for allocation in some_allocations(seed, program, size, many=1):
                    for name in program.order:
                        self.check(allocation, name, pairs)

    def test_taken_is_the_first_one_in_the_order(self):
        # b and c have the same register, and both of them conflict with a, x and y.
        p = realized(("a", "b", "c"), (("a", "b"), ("a", "c")))
        for registers in itertools.product(range(3), repeat=3):
            by_name = dict(zip(("a", "b", "c"), registers))
            if by_name["b"] == by_name["c"] != by_name["a"]:
                a = Allocation(p, 3, [by_name[name] for name in p.order])
                with self.assertRaises(Taken) as told:
                    reassigned(a, "a", by_name["b"])
                self.assertEqual(told.exception.other, [name for name in p.order if name != "a"][0])

    def test_taken_by_a_later_variable(self):
        with self.assertRaises(Taken) as told:
            reassigned(first_fit(read_program(EXAMPLE), 3), "x", 2)
        self.assertEqual(told.exception.other, "t")
        with self.assertRaises(Taken) as told:
            reassigned(first_fit(read_program(EXAMPLE), 3), "t", 0)
        self.assertEqual(told.exception.other, "x")

    def test_no_variable(self):
        a = first_fit(read_program(EXAMPLE), 3)
        for name in ("c", "A", "", "tell", "xy"):
            for reg in (0, 2, 3, -1, 40):
                with self.assertRaises(NoVariable) as told:
                    reassigned(a, name, reg)
                self.assertEqual(told.exception.name, name)
            with self.assertRaises(NoVariable) as told:
                free_registers(a, name)
            self.assertEqual(told.exception.name, name)

    def test_no_register(self):
        p = read_program(EXAMPLE)
        for size in (3, 4, 40):
            a = first_fit(p, size)
            for name in p.order:
                for reg in (-1, -size, size, size + 1, 10 ** 70):
                    with self.assertRaises(NoRegister) as told:
                        reassigned(a, name, reg)
                    self.assertEqual(told.exception.reg, reg)
            self.assertEqual(a, first_fit(p, size))

    def test_free_registers(self):
        p = read_program(EXAMPLE)
        a = first_fit(p, 3)
        self.assertEqual([free_registers(a, name) for name in p.order], [(2,), (2,), (), (), (), ()])
        b = first_fit(p, 5)
        self.assertEqual(
            [free_registers(b, name) for name in p.order], [(2, 3, 4), (2, 3, 4), (3, 4), (3, 4), (3, 4), (3, 4)],
        )
        alone = Allocation(read_program("block a\ngive"), 3, (1,))
        self.assertEqual(free_registers(alone, "a"), (0, 2))

    def test_keywords(self):
        a = first_fit(read_program(EXAMPLE), 3)
        self.assertEqual(reassigned(reg=2, name="a", allocation=a), reassigned(a, "a", 2))
        self.assertEqual(free_registers(name="a", allocation=a), (2,))


class WayTest(unittest.TestCase):
    def check(self, one, other, pairs):
        """The way leads from the first to the second one by legal changes, and is not too long."""
        order, size = one.program.order, one.size
        former, latter = one.registers, other.registers
        partners = {name: [y for x, y in pairs if x == name] for name in order}
        way = reassign_way(one, other)
        self.assertIsInstance(way, tuple)
        present = dict(zip(order, one.registers))
        for step in way:
            self.assertIsInstance(step, tuple)
            name, reg = step
            self.assertIn(reg, range(size))
            self.assertNotEqual(reg, present[name])
            self.assertNotIn(reg, [present[x] for x in partners[name]])
            present[name] = reg
        self.assertEqual(tuple(present[name] for name in order), other.registers)
        self.assertLessEqual(len(way), 4 * len(order) ** 2)
        self.assertEqual((one.registers, other.registers), (former, latter))

    def check_some(self, seed, program, pairs, many=3):
        """Ways with one, two and three registers more than the fewest, the first and the last allocation among them."""
        few, _ = fewest(program)
        for size in (few + 1, few + 2, few + 3):
            found = some_allocations(seed, program, size, many)
            with self.subTest(seed=seed, size=size):
                self.check(found[0], found[-1], pairs)
                self.check(found[-1], found[0], pairs)
                for one, other in zip(found, found[1:]):
                    self.check(one, other, pairs)

    def test_the_example(self):
        p = read_program(EXAMPLE)
        self.check_some(1, p, oracles.conflicts(p.blocks))

    def test_the_steps_are_those_of_reassigned(self):
        p = read_program(EXAMPLE)
        one, other = allocation_at(p, 4, 0), allocation_at(p, 4, how_many(p, 4) - 1)
        present = one
        for name, reg in reassign_way(one, other):
            present = reassigned(present, name, reg)
        self.assertEqual(present, other)

    def test_no_variables(self):
        p = read_program(EMPTY)
        for size in (1, 2, 40):
            self.assertEqual(reassign_way(first_fit(p, size), first_fit(p, size)), ())

    def test_one_variable(self):
        p = read_program("block a\ngive a")
        for one in each_allocation(p, 3):
            for other in each_allocation(p, 3):
                self.check(one, other, set())

    def test_one_full_set(self):
        for many in (2, 3, 4):
            p = read_program("block " + " ".join("abcd"[:many]) + "\ngive")
            pairs = set(itertools.permutations("abcd"[:many], 2))
            found = list(each_allocation(p, many + 1))
            for one in found:
                for other in found:
                    self.check(one, other, pairs)

    def test_one_full_set_with_more_to_spare(self):
        p = read_program("block a b c\ngive")
        found = list(each_allocation(p, 5))
        for one in found:
            for other in found:
                self.check(one, other, set(itertools.permutations("abc", 2)))

    def test_rings_in_one_large_set(self):
        names = [first + second for first in "abcd" for second in "abcdefghij"][:39]
        p = read_program("block " + " ".join(names) + "\ngive " + " ".join(names))
        pairs = set(itertools.permutations(names, 2))
        for turn in (1, 2, 13, 19, 38):
            one, other = Allocation(p, 40, range_of(39, 0)), Allocation(p, 40, range_of(39, turn))
            self.check(one, other, pairs)
            self.check(other, one, pairs)
        self.check(Allocation(p, 40, range_of(39, 0)), Allocation(p, 40, range_of(39, 0)[::-1]), pairs)

    def test_sets_beside_one_another(self):
        shapes = (
            # Two sets that share one name, two names, none.
            "ab bc", "abc bcd", "ab cd", "abc de",
            # Sets of unlike sizes, in both orders.
            "abcd de", "ab bcde", "abcde aef", "abc ad ae",
            # In a row, around a middle one, around one name.
            "ab bc cd de", "abc bcd cde def", "abc ad be cf", "abd bce acf abc", "ax bx cx dx", "abx cdx efx",
            # One that is in all others but for one name, and names alone.
            "abcd abce abcf", "a b c d", "ab c d", "abc d ef",
        )
        for shape in shapes:
            names = sorted(set(shape) - {" "})
            pairs = {pair for each in shape.split(" ") for pair in itertools.combinations(each, 2)}
            for order in (names, names[::-1]):
                p = realized(order, sorted(pairs))
                with self.subTest(shape=shape):
                    self.check_some(7, p, both_ways(pairs), many=6)

    def test_all_pairs_of_allocations_of_small_shapes(self):
        for shape in ("ab bc", "abc bcd", "ab cd", "ab bc cd", "abc cd"):
            names = sorted(set(shape) - {" "})
            pairs = {pair for each in shape.split(" ") for pair in itertools.combinations(each, 2)}
            p = realized(names, sorted(pairs))
            few, _ = fewest(p)
            found = list(each_allocation(p, few + 1))
            for one in found[::3]:
                for other in found[::2]:
                    self.check(one, other, both_ways(pairs))

    def test_many_programs(self):
        for seed in range(80):
            program = made(seed)
            self.check_some(seed, program, oracles.conflicts(program.blocks), many=2)

    def test_many_conflicts(self):
        for seed in range(150):
            names, pairs = made_conflicts(seed, 1 + seed % 16, 1 + seed % 7)
            self.check_some(seed, realized(names, pairs), both_ways(pairs))

    def test_forty_variables(self):
        for seed in range(30):
            names, pairs = made_conflicts(seed, 40, 1 + seed)
            self.check_some(seed, realized(names, pairs), both_ways(pairs), many=1)

    def test_large_programs(self):
        for seed in range(3):
            program = made_large(seed)
            self.check_some(seed, program, oracles.conflicts(program.blocks))

    def test_forty_registers(self):
        program = made_large(1)
        found = some_allocations(1, program, 40)
        self.check(found[0], found[-1], oracles.conflicts(program.blocks))

    def test_no_spare(self):
        for seed in range(60):
            program = made(seed)
            few, _ = fewest(program)
            found = some_allocations(seed, program, few)
            for one, other in ((found[0], found[-1]), (found[0], found[0])):
                with self.assertRaises(NoSpare) as told:
                    reassign_way(one, other)
                self.assertEqual(told.exception.size, few)
                self.assertIsInstance(told.exception, RegisterError)
        with self.assertRaises(NoSpare) as told:
            reassign_way(first_fit(read_program(EMPTY), 0), first_fit(read_program(EMPTY), 0))
        self.assertEqual(told.exception.size, 0)

    def test_not_akin(self):
        p, q = read_program(EXAMPLE), read_program(EXAMPLE.replace("100", "101"))
        for one, other in (
            # Both without a spare register, one of them, none of them.
            (first_fit(p, 3), first_fit(q, 3)), (first_fit(p, 3), first_fit(p, 4)), (first_fit(p, 4), first_fit(p, 3)),
            (first_fit(p, 4), first_fit(q, 4)), (first_fit(p, 4), first_fit(p, 5)), (first_fit(p, 3), first_fit(q, 4)),
            (first_fit(p, 4), first_fit(read_program(EMPTY), 4)),
        ):
            with self.assertRaises(NotAkin) as told:
                reassign_way(one, other)
            self.assertIsInstance(told.exception, RegisterError)

    def test_programs_made_from_equal_blocks(self):
        p = read_program(EXAMPLE)
        q = Program([[list(part) for part in block] for block in p.blocks])
        one, other = first_fit(p, 4), allocation_at(q, 4, how_many(q, 4) - 1)
        self.check(one, other, oracles.conflicts(p.blocks))
        self.check(one, first_fit(q, 4), oracles.conflicts(p.blocks))

    def test_keywords(self):
        p = read_program(EXAMPLE)
        one, other = first_fit(p, 4), allocation_at(p, 4, 77)
        self.assertEqual(reassign_way(other=other, one=one), reassign_way(one, other))


def range_of(many, turn):
    """So many registers, each one used once, turned by some places."""
    return tuple((at + turn) % many for at in range(many))


if __name__ == "__main__":
    unittest.main()
