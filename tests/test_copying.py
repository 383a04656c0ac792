"""[43]: copies that are executed one after the other."""

import itertools
import random
import unittest

from registerways.copying import in_turn


def rings_of(copies):
    """The rings of [43], as sets of registers."""
    source_of = {target: source[1] for target, source in copies if source[0] == "reg" and source[1] != target}
    found = []
    for start in source_of:
        seen = [start]
        while source_of.get(seen[-1]) not in (None, *seen):
            seen.append(source_of[seen[-1]])
        if source_of.get(seen[-1]) == start and set(seen) not in found:
            found.append(set(seen))
    return found


def fewest_in_turn(copies):
    """How many copies [43] allows."""
    rings = rings_of(copies)
    isolated = 0
    for ring in rings:
        others = [
            target for target, (kind, value) in copies
            if kind == "reg" and value in ring and target not in ring
        ]
        isolated += not others
    return sum(source != ("reg", target) for target, source in copies) + isolated


class CopyTest(unittest.TestCase):
    def check(self, copies, spare):
        """As few copies as [43] says, which do in turn what the given ones do at once."""
        made = in_turn(copies, spare)
        self.assertIsInstance(made, tuple)
        for copy in made:
            self.assertIsInstance(copy, tuple)
            target, source = copy
            self.assertIsInstance(target, int)
            self.assertIsInstance(source, tuple)
            kind, value = source
            self.assertIn(kind, ("reg", "word"))
            self.assertIsInstance(value, int)
        self.assertEqual(len(made), fewest_in_turn(copies))
        for first in (1000, 0):
            # Unlike values in all registers, then the same one in all of them.
            before = [first + at if first else 7 for at in range(82)]
            at_once, present = list(before), list(before)
            for target, (kind, value) in copies:
                at_once[target] = before[value] if kind == "reg" else value
            for target, (kind, value) in made:
                present[target] = present[value] if kind == "reg" else value
            at_once[spare] = present[spare]
            self.assertEqual(present, at_once)
        return made

    def test_no_copies(self):
        self.assertEqual(self.check((), 0), ())
        self.assertEqual(self.check([], 80), ())

    def test_copies_of_a_register_to_itself(self):
        self.assertEqual(self.check(((1, ("reg", 1)),), 0), ())
        self.assertEqual(self.check(((1, ("reg", 1)), (0, ("reg", 0)), (7, ("reg", 7))), 5), ())
        self.assertEqual(len(self.check(((1, ("reg", 1)), (2, ("reg", 1))), 0)), 1)
        self.assertEqual(len(self.check(((1, ("reg", 1)), (2, ("reg", 3)), (3, ("reg", 2))), 0)), 3)

    def test_one_copy(self):
        self.assertEqual(self.check(((0, ("reg", 1)),), 2), ((0, ("reg", 1)),))
        self.assertEqual(self.check(((0, ("word", 5)),), 1), ((0, ("word", 5)),))

    def test_words(self):
        self.check(((0, ("word", 5)), (1, ("word", 5)), (2, ("word", 0)), (3, ("word", 65535))), 4)
        # The word has the number of its register, or of a register that is a target.
        self.check(((0, ("word", 0)), (1, ("word", 0)), (2, ("reg", 0))), 4)
        self.check(((1, ("word", 2)), (2, ("word", 1))), 0)
        self.check(((1, ("word", 9)), (2, ("reg", 1)), (3, ("reg", 2))), 0)

    def test_chains(self):
        self.check(((0, ("reg", 1)), (1, ("reg", 2)), (2, ("reg", 3))), 4)
        self.check(((2, ("reg", 3)), (1, ("reg", 2)), (0, ("reg", 1))), 4)
        self.check(((1, ("reg", 0)), (2, ("reg", 0)), (3, ("reg", 0)), (0, ("reg", 4))), 5)

    def test_rings_that_are_isolated(self):
        for many in (2, 3, 4, 5, 12, 40):
            copies = tuple((at, ("reg", (at + 1) % many)) for at in range(many))
            self.assertEqual(len(self.check(copies, many)), many + 1)
            self.assertEqual(len(self.check(copies[::-1], many + 20)), many + 1)

    def test_several_rings_that_are_isolated(self):
        copies = tuple((at, ("reg", at ^ 1)) for at in range(10))
        self.assertEqual(len(self.check(copies, 10)), 15)
        copies += ((20, ("reg", 21)), (21, ("reg", 22)), (22, ("reg", 20)), (30, ("word", 3)), (31, ("reg", 32)))
        self.assertEqual(len(self.check(copies, 80)), 21)

    def test_rings_that_are_not_isolated(self):
        for many in (2, 3, 5):
            ring = tuple((at, ("reg", (at + 1) % many)) for at in range(many))
            for source in range(many):
                # One more copy out of the ring, a chain behind it, two copies.
                self.assertEqual(len(self.check(ring + ((7, ("reg", source)),), 9)), many + 1)
                self.assertEqual(len(self.check(((7, ("reg", source)),) + ring, 9)), many + 1)
                self.assertEqual(len(self.check(ring + ((7, ("reg", source)), (8, ("reg", 7))), 9)), many + 2)
                self.assertEqual(len(self.check(ring + ((7, ("reg", source)), (8, ("reg", source))), 9)), many + 2)
                self.assertEqual(len(self.check(ring + ((7, ("reg", source)), (8, ("reg", 0))), 9)), many + 2)

    def test_one_ring_isolated_and_one_not(self):
        copies = (
            (0, ("reg", 1)), (1, ("reg", 0)), (2, ("reg", 3)), (3, ("reg", 2)), (4, ("reg", 3)), (5, ("reg", 4)),
            (6, ("word", 4)),
        )
        for order in itertools.permutations(copies[:5]):
            self.assertEqual(len(self.check(order + copies[5:], 9)), 8)

    def test_a_copy_into_a_ring_from_outside_is_none(self):
        # Targets are different, so what leads into a chain behind a ring cannot be in it.
        self.assertEqual(len(self.check(((0, ("reg", 1)), (1, ("reg", 0)), (2, ("word", 0)), (3, ("reg", 2))), 9)), 5)

    def test_spare_registers_below_between_and_above(self):
        for spare in (0, 3, 6, 80):
            names = [reg for reg in (0, 1, 2, 3, 4, 5) if reg != spare]
            ring = tuple((x, ("reg", y)) for x, y in zip(names, names[1:] + names[:1]))
            self.assertEqual(len(self.check(ring, spare)), len(names) + 1)
            self.assertEqual(len(self.check(ring[:-1], spare)), len(names) - 1)

    def test_all_copies_of_four_registers(self):
        sources = [None] + [("reg", reg) for reg in range(5)] + [("word", 1)]
        for chosen in itertools.product(sources, repeat=4):
            copies = tuple((target, source) for target, source in enumerate(chosen) if source is not None)
            self.check(copies, 5)

    def test_all_copies_of_three_registers_in_all_orders_with_each_spare_one(self):
        for spare in range(5):
            regs = [reg for reg in range(5) if reg != spare]
            sources = [None, ("word", spare)] + [("reg", reg) for reg in regs]
            for chosen in itertools.product(sources, repeat=3):
                copies = [(target, source) for target, source in zip(regs, chosen) if source is not None]
                for order in itertools.permutations(copies):
                    self.check(order, spare)

    def test_many_copies_by_chance(self):
        for seed in range(600):
            dice = random.Random(seed)
            many = dice.randint(1, 40)
            regs = dice.sample(range(81), many + 1)
            spare = regs.pop()
            targets = dice.sample(regs, dice.randint(0, many))
            # Often each register is the source of one copy, so that there are rings.
            sources = dice.sample(regs, many) if dice.random() < 0.5 else [dice.choice(regs) for _ in regs]
            copies = [
                (target, ("word", dice.choice(regs)) if dice.random() < 0.1 else ("reg", source))
                for target, source in zip(targets, sources)
            ]
            with self.subTest(seed=seed):
                self.check(tuple(copies), spare)

    def test_lists(self):
        copies = [[0, ["reg", 1]], (1, ["reg", 0]), [2, ("word", 7)], [3, ["reg", 3]]]
        made = self.check(tuple((target, tuple(source)) for target, source in copies), 5)
        self.assertEqual(in_turn(copies, 5), made)
        self.assertEqual(copies, [[0, ["reg", 1]], (1, ["reg", 0]), [2, ("word", 7)], [3, ["reg", 3]]])
        copies[0][1].clear()
        copies.clear()
        self.assertEqual(len(made), 4)
        for target, source in in_turn([[0, ["word", 1]], [1, ["reg", 2]]], 5):
            self.assertIsInstance(source, tuple)

    def test_keywords(self):
        copies = ((0, ("reg", 1)), (1, ("reg", 0)))
        self.assertEqual(in_turn(spare=2, copies=copies), in_turn(copies, 2))


if __name__ == "__main__":
    unittest.main()
