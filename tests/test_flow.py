"""[10], [13]: which blocks dominate which, and ways around a block."""

import unittest

from registerways.flow import avoiding, below, dominates
from registerways.texts import read_program
from tests.samples import EXAMPLE, GRAPHS, all_graphs, graph, simple_paths


class FlowTest(unittest.TestCase):
    def check(self, targets_of_blocks):
        """Compare all three functions with what the paths of a graph say."""
        program = graph(*targets_of_blocks)
        blocks = range(len(targets_of_blocks))
        paths = [simple_paths(targets_of_blocks, block) for block in blocks]
        above = [{upper for upper in blocks if all(upper in path for path in paths[lower])} for lower in blocks]
        for lower in blocks:
            for upper in blocks:
                self.assertIs(dominates(program, upper, lower), upper in above[lower])
                lengths = [len(path) for path in paths[lower] if upper not in path]
                self.check_way(targets_of_blocks, avoiding(program, upper, lower), upper, lower, lengths)
        self.assertEqual(below(program), tuple(self.directly_above(above, lower) for lower in blocks))

    def check_way(self, targets_of_blocks, way, upper, lower, lengths):
        if not lengths:
            self.assertIsNone(way)
            return
        self.assertIs(type(way), tuple)
        self.assertEqual(len(way), min(lengths))
        self.assertEqual((way[0], way[-1]), (0, lower))
        self.assertNotIn(upper, way)
        for block, following in zip(way, way[1:]):
            self.assertIn(following, targets_of_blocks[block])

    def directly_above(self, above, lower):
        others = above[lower] - {lower}
        found = [upper for upper in others if others <= above[upper]]
        self.assertEqual(len(found), 0 if lower == 0 else 1)
        return found[0] if found else None

    def test_named_graphs(self):
        for targets_of_blocks in GRAPHS:
            with self.subTest(targets=targets_of_blocks):
                self.check(targets_of_blocks)

    def test_all_graphs_of_three_blocks(self):
        for targets_of_blocks in all_graphs(3):
            with self.subTest(targets=targets_of_blocks):
                self.check(targets_of_blocks)

    def test_many_graphs_of_four_blocks(self):
        for at, targets_of_blocks in enumerate(all_graphs(4)):
            if at % 7 == 0:
                with self.subTest(targets=targets_of_blocks):
                    self.check(targets_of_blocks)

    def test_one_block(self):
        program = graph(())
        self.assertIs(dominates(program, 0, 0), True)
        self.assertEqual(below(program), (None,))
        self.assertIsNone(avoiding(program, 0, 0))

    def test_a_block_dominates_itself_and_the_entry_each(self):
        for targets_of_blocks in GRAPHS:
            program = graph(*targets_of_blocks)
            for block in range(len(targets_of_blocks)):
                self.assertIs(dominates(program, block, block), True)
                self.assertIs(dominates(program, 0, block), True)
                self.assertIs(dominates(program, block, 0), block == 0)

    def test_two_ways_to_one_block(self):
        program = graph((1, 2), (3,), (3,), ())
        self.assertEqual(below(program), (None, 0, 0, 0))
        self.assertEqual(avoiding(program, 1, 3), (0, 2, 3))
        self.assertEqual(avoiding(program, 2, 3), (0, 1, 3))
        self.assertEqual(avoiding(program, 3, 0), (0,))
        self.assertIsNone(avoiding(program, 0, 3))

    def test_both_jumps_to_one_block(self):
        program = graph((1, 1), (2, 2), ())
        self.assertEqual(below(program), (None, 0, 1))
        self.assertIs(dominates(program, 1, 2), True)
        self.assertIsNone(avoiding(program, 1, 2))

    def test_as_short_as_possible(self):
        # Of three ways to block 5, the shortest one leads through the block that is left out.
        program = graph((4, 1), (2, 3), (3,), (5,), (5,), (6,), ())
        self.assertEqual(avoiding(program, 4, 6), (0, 1, 3, 5, 6))
        self.assertEqual(avoiding(program, 1, 6), (0, 4, 5, 6))
        self.assertEqual(avoiding(program, 2, 6), (0, 4, 5, 6))

    def test_by_keyword(self):
        program = graph((2,), (), (1, 3), ())
        self.assertIs(dominates(program=program, upper=2, lower=3), True)
        self.assertIs(dominates(lower=2, upper=3, program=program), False)
        self.assertEqual(below(program=program), (None, 2, 0, 2))
        self.assertEqual(avoiding(program=program, upper=1, lower=3), (0, 2, 3))
        self.assertIsNone(avoiding(lower=3, upper=2, program=program))

    def test_blocks_with_instructions_and_arguments(self):
        program = read_program(EXAMPLE)
        self.assertEqual(below(program), (None, 0, 1, 1))
        self.assertIs(dominates(program, 2, 3), False)

    def test_many_blocks(self):
        many = 180
        program = graph(*[(block + 1,) for block in range(many - 1)], ())
        self.assertEqual(below(program), (None, *range(many - 1)))
        self.assertIs(dominates(program, many - 2, many - 1), True)
        self.assertEqual(avoiding(program, many - 1, many - 2), tuple(range(many - 1)))


if __name__ == "__main__":
    unittest.main()
