"""[31] to [33], and of [2] that swaps connect all allocations: chains and swaps."""

import unittest

from registerways.allocations import Allocation, each_allocation, first_fit
from registerways.conflicts import fewest
from registerways.errors import NoRegister, NotAkin, NoVariable, RegisterError
from registerways.programs import Program
from registerways.shapes import realized
from registerways.swaps import chain, swap_way, swapped
from registerways.texts import read_program
from tests import oracles
from tests.making import made, made_conflicts, made_large, some_allocations
from tests.samples import EXAMPLE

EMPTY = "block\ntell 1\ngive"


def chain_by_definition(allocation, name, reg, pairs):
    """The least set as in [31], grown until nothing is missing; pairs are all conflicts, both ways round."""
    both = {allocation[name], reg}
    some = [(x, y) for x, y in pairs if allocation[y] in both]
    found = {name}
    while True:
        more = {y for x, y in some if x in found} - found
        if not more:
            return tuple(x for x in allocation.program.order if x in found)
        found |= more


def swapped_by_definition(allocation, name, reg, pairs):
    """The registers after a swap as in [31]."""
    links = chain_by_definition(allocation, name, reg, pairs)
    former = allocation[name]
    return tuple(
        ({former: reg, reg: former}[allocation[x]] if x in links else allocation[x]) for x in allocation.program.order
    )


def allocations_of(seed, program):
    few, _ = fewest(program)
    return [each for size in (few, few + 1, few + 3) for each in some_allocations(seed, program, size, many=1)]


class ChainTest(unittest.TestCase):
    def test_the_example(self):
        a = first_fit(read_program(EXAMPLE), 3)
        self.assertEqual(chain(a, "a", 1), ("a", "b"))
        self.assertEqual(chain(a, "a", 2), ("a",))
        self.assertEqual(chain(a, "x", 2), ("x", "t", "z"))
        self.assertEqual(chain(a, "t", 0), ("x", "t", "z"))
        self.assertEqual(chain(a, "t", 1), ("y", "t", "z"))

    def test_its_own_register(self):
        a = first_fit(read_program(EXAMPLE), 3)
        for name in a.program.order:
            self.assertEqual(chain(a, name, a[name]), (name,))
            self.assertEqual(swapped(a, name, a[name]), a)

    def test_the_registers_of_the_example(self):
        a = first_fit(read_program(EXAMPLE), 3)
        self.assertEqual(swapped(a, "x", 2).registers, (0, 1, 2, 1, 0, 0))
        self.assertEqual(swapped(a, "a", 1).registers, (1, 0, 0, 1, 2, 2))
        self.assertEqual(swapped(a, "a", 2).registers, (2, 1, 0, 1, 2, 2))

    def test_a_long_chain(self):
        names = [f"v{letter}" for letter in "abcdefghijkl"]
        p = realized(names, list(zip(names, names[1:])))
        a = Allocation(p, 3, [names.index(name) % 2 for name in p.order])
        self.assertEqual(chain(a, "va", 1), p.order)
        self.assertEqual(chain(a, "vf", 2), ("vf",))
        b = swapped(a, "vf", 2)
        self.assertEqual(set(chain(b, "va", 1)), set(names[:5]))
        self.assertEqual(set(chain(b, "vl", 0)), set(names[6:]))

    def test_each_variable_with_each_register(self):
        for seed in range(40):
            program = made(seed)
            pairs = oracles.conflicts(program.blocks)
            for allocation in allocations_of(seed, program):
                for name in program.order:
                    for reg in range(allocation.size):
                        with self.subTest(seed=seed, registers=allocation.registers, name=name, reg=reg):
                            self.check(allocation, name, reg, pairs)

    def check(self, allocation, name, reg, pairs):
        before = allocation.registers
        links = chain(allocation, name, reg)
        self.assertIsInstance(links, tuple)
        self.assertEqual(links, chain_by_definition(allocation, name, reg, pairs))
        after = swapped(allocation, name, reg)
        self.assertIsInstance(after, Allocation)
        self.assertEqual(after.registers, swapped_by_definition(allocation, name, reg, pairs))
        self.assertEqual((after.size, after.program.blocks), (allocation.size, allocation.program.blocks))
        # The swap back, over the very same chain.
        self.assertEqual(chain(after, name, allocation[name]), links)
        self.assertEqual(swapped(after, name, allocation[name]), allocation)
        self.assertEqual(allocation.registers, before)

    def test_large_programs(self):
        for seed in range(2):
            program = made_large(seed)
            pairs = oracles.conflicts(program.blocks)
            for allocation in some_allocations(seed, program, fewest(program)[0], many=1):
                for name in program.order:
                    for reg in range(allocation.size):
                        self.check(allocation, name, reg, pairs)

    def test_no_variable(self):
        a = first_fit(read_program(EXAMPLE), 3)
        for call in (chain, swapped):
            for name in ("c", "A", "", "tell", "xy"):
                for reg in (0, 2, 3, -1, 40):
                    with self.subTest(call=call.__name__, name=name, reg=reg):
                        with self.assertRaises(NoVariable) as told:
                            call(a, name, reg)
                        self.assertEqual(told.exception.name, name)
                        self.assertIsInstance(told.exception, RegisterError)

    def test_no_register(self):
        p = read_program(EXAMPLE)
        for size in (3, 4, 40):
            a = first_fit(p, size)
            for call in (chain, swapped):
                for name in p.order:
                    for reg in (-1, -size, size, size + 1, 10 ** 70):
                        with self.subTest(call=call.__name__, size=size, name=name, reg=reg):
                            with self.assertRaises(NoRegister) as told:
                                call(a, name, reg)
                            self.assertEqual(told.exception.reg, reg)
            self.assertEqual(a, first_fit(p, size))

    def test_keywords(self):
        a = first_fit(read_program(EXAMPLE), 3)
        self.assertEqual(chain(reg=2, name="x", allocation=a), ("x", "t", "z"))
        self.assertEqual(swapped(reg=2, name="x", allocation=a), swapped(a, "x", 2))


class WayTest(unittest.TestCase):
    def check(self, one, other, pairs=None):
        """The way is the one that [33] describes; pairs are the conflicts, unless the program is to be asked."""
        order = one.program.order
        former, latter = one.registers, other.registers
        way = swap_way(one, other)
        present, expected = one, []
        if pairs is None:
            pairs = oracles.conflicts(one.program.blocks)
        for name in order:
            if present[name] != other[name]:
                expected.append((name, other[name]))
                registers = swapped_by_definition(present, name, other[name], pairs)
                before = order[:order.index(name)]
                self.assertEqual(registers[:len(before)], present.registers[:len(before)])
                present = Allocation(one.program, one.size, registers)
        self.assertEqual(way, tuple(expected))
        self.assertLessEqual(len(way), len(order))
        for name, reg in way:
            self.assertIsInstance(name, str)
            self.assertIsInstance(reg, int)
        present = one
        for name, reg in way:
            present = swapped(present, name, reg)
        self.assertEqual(present, other)
        self.assertEqual((one.registers, other.registers), (former, latter))

    def test_the_example(self):
        p = read_program(EXAMPLE)
        way = swap_way(first_fit(p, 3), Allocation(p, 3, (1, 0, 2, 0, 1, 1)))
        self.assertEqual(way, (("a", 1), ("x", 2), ("y", 0)))

    def test_all_pairs_of_allocations(self):
        p = read_program(EXAMPLE)
        found = list(each_allocation(p, 3))
        for one in found:
            for other in found:
                self.check(one, other)

    def test_all_pairs_of_a_line(self):
        names = ("a", "b", "c", "d")
        p = realized(names, (("a", "b"), ("b", "c"), ("c", "d")))
        for size in (2, 3):
            found = list(each_allocation(p, size))
            for one in found:
                for other in found:
                    self.check(one, other)

    def test_from_the_first_to_the_last_allocation(self):
        for seed in range(60):
            program = made(seed)
            for size in (fewest(program)[0], fewest(program)[0] + 1, 40):
                found = some_allocations(seed, program, size)
                with self.subTest(seed=seed, size=size):
                    self.check(found[0], found[-1])
                    self.check(found[-1], found[0])
                    for one, other in zip(found, found[1:]):
                        self.check(one, other)

    def test_large_programs(self):
        for seed in range(4):
            program = made_large(seed)
            for size in (fewest(program)[0], 40):
                found = some_allocations(seed, program, size)
                self.check(found[0], found[-1])
                self.check(found[-2], found[1])

    def test_many_conflicts(self):
        for seed in range(20):
            names, pairs = made_conflicts(seed, 40, 1 + seed)
            program = realized(names, pairs)
            found = some_allocations(seed, program, fewest(program)[0])
            self.check(found[0], found[-1], pairs + tuple((y, x) for x, y in pairs))

    def test_equal_ones(self):
        for text in (EXAMPLE, EMPTY):
            p, q = read_program(text), read_program(text)
            for size in (3, 40):
                self.assertEqual(swap_way(first_fit(p, size), first_fit(p, size)), ())
                self.assertEqual(swap_way(first_fit(p, size), first_fit(q, size)), ())

    def test_programs_made_from_equal_blocks(self):
        p = read_program(EXAMPLE)
        q = Program([[list(part) for part in block] for block in p.blocks])
        self.assertIsNot(p, q)
        one, other = first_fit(p, 3), Allocation(q, 3, (1, 0, 2, 0, 1, 1))
        self.assertEqual(swap_way(one, other), (("a", 1), ("x", 2), ("y", 0)))
        self.check(one, other)

    def test_not_akin(self):
        p = read_program(EXAMPLE)
        # Another word, another name, the same variables in the same order.
        for text in (EXAMPLE.replace("100", "101"), EXAMPLE.replace("t", "w"), EMPTY, "block a b x y t z\ngive a"):
            q = read_program(text)
            size = max(3, fewest(q)[0])
            for one, other in ((p, q), (q, p)):
                with self.subTest(text=text):
                    with self.assertRaises(NotAkin) as told:
                        swap_way(first_fit(one, size), first_fit(other, size))
                    self.assertIsInstance(told.exception, RegisterError)
        for one, other in ((3, 4), (4, 3), (3, 40)):
            with self.assertRaises(NotAkin):
                swap_way(first_fit(p, one), first_fit(p, other))
        with self.assertRaises(NotAkin):
            swap_way(first_fit(read_program(EMPTY), 0), first_fit(read_program(EMPTY), 1))

    def test_keywords(self):
        p = read_program(EXAMPLE)
        self.assertEqual(
            swap_way(other=Allocation(p, 3, (1, 0, 2, 0, 1, 1)), one=first_fit(p, 3)),
            (("a", 1), ("x", 2), ("y", 0)),
        )


if __name__ == "__main__":
    unittest.main()
