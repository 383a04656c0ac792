"""[21] to [23], and [3]: conflicts, those that come earlier, and the fewest registers."""

import unittest

from registerways.conflicts import conflict, conflicts, earlier, fewest
from registerways.errors import NoVariable, RegisterError
from registerways.liveness import held, points
from registerways.programs import Program
from registerways.texts import program_text, read_program
from tests import oracles
from tests.making import made
from tests.samples import EXAMPLE, GRAPHS, graph


class ConflictTest(unittest.TestCase):
    def test_the_example(self):
        p = read_program(EXAMPLE)
        pairs = (("a", "b"), ("x", "y"), ("x", "t"), ("y", "t"), ("x", "z"), ("y", "z"))
        self.assertEqual(conflicts(p), pairs)
        for first in p.order:
            for second in p.order:
                with self.subTest(first=first, second=second):
                    self.assertIs(conflict(p, first, second), (first, second) in pairs or (second, first) in pairs)

    def test_a_variable_does_not_conflict_with_itself(self):
        p = read_program("block a\ntell a\ngive a")
        self.assertIs(conflict(p, "a", "a"), False)
        self.assertEqual(conflicts(p), ())

    def test_an_operand_that_is_used_for_the_last_time_does_not_conflict_with_the_result(self):
        self.assertEqual(conflicts(read_program("block a b\nc = add a b\ngive c")), (("a", "b"),))

    def test_variables_that_are_never_used_conflict_where_they_are_assigned(self):
        p = read_program("block a b c\nd = add 1 1\ne = add 1 1\ngive b")
        self.assertEqual(conflicts(p), (("a", "b"), ("a", "c"), ("b", "c"), ("b", "d"), ("b", "e")))

    def test_parameters_of_one_block_conflict_though_they_are_never_used(self):
        p = read_program("block a\ngo 1 a a a\nblock x y z\ngive")
        self.assertEqual(conflicts(p), (("x", "y"), ("x", "z"), ("y", "z")))

    def test_pairs_are_sorted_by_the_second_then_by_the_first_variable(self):
        p = read_program("block d c\na = add 1 1\nb = add 1 1\ngive b c a d")
        self.assertEqual(conflicts(p), (("d", "c"), ("d", "a"), ("c", "a"), ("d", "b"), ("c", "b"), ("a", "b")))

    def test_a_variable_that_a_loop_needs_conflicts_with_all_of_it(self):
        p = read_program("block k\ngo 1 0\nblock i\nj = add i 1\nif j 1 j else 2\nblock\ngive k")
        self.assertEqual(conflicts(p), (("k", "i"), ("k", "j")))

    def test_the_order_is_not_that_of_the_numbers_of_blocks(self):
        p = read_program("block\ngo 2 1\nblock\nb = add a 1\ngive b a\nblock a\ngo 1")
        self.assertEqual(conflicts(p), (("a", "b"),))
        self.assertEqual((earlier(p, "a"), earlier(p, "b")), ((), ("a",)))

    def test_no_variables(self):
        for targets in GRAPHS:
            p = graph(*targets)
            self.assertEqual((conflicts(p), fewest(p)), ((), (0, (0, 0))))

    def test_many_programs(self):
        for seed in range(300):
            program = made(seed)
            found = oracles.conflicts(program.blocks)
            order = program.order
            with self.subTest(seed=seed):
                self.assertEqual(conflicts(program), tuple(
                    (x, y) for at, y in enumerate(order) for x in order[:at] if (x, y) in found
                ))
                for y in order:
                    for x in order:
                        self.assertIs(conflict(program, x, y), (x, y) in found)


class EarlierTest(unittest.TestCase):
    def test_the_example(self):
        p = read_program(EXAMPLE)
        self.assertEqual(
            [earlier(p, name) for name in p.order],
            [(), ("a",), (), ("x",), ("x", "y"), ("x", "y")],
        )

    def test_many_programs(self):
        for seed in range(300):
            program = made(seed)
            found = oracles.conflicts(program.blocks)
            places = oracles.places(program.blocks)
            for at, y in enumerate(program.order):
                with self.subTest(seed=seed, y=y):
                    self.assertEqual(earlier(program, y), tuple(x for x in program.order[:at] if (x, y) in found))
                    # [22] and [3]: they conflict with one another, and are held where y is assigned.
                    for x in earlier(program, y):
                        self.assertIn(x, held(program, places[y]))
                        for z in earlier(program, y):
                            self.assertIs(conflict(program, x, z), x != z)


class FewestTest(unittest.TestCase):
    def test_the_example(self):
        self.assertEqual(fewest(read_program(EXAMPLE)), (3, (1, 1)))

    def test_one_block(self):
        self.assertEqual(fewest(read_program("block\ngive")), (0, (0, 0)))
        self.assertEqual(fewest(read_program("block\ntell 1\na = add 1 1\ngive")), (1, (0, 2)))
        self.assertEqual(fewest(read_program("block a\ntell a\nb = add a a\ngive a b")), (2, (0, 2)))

    def test_the_first_of_several_points(self):
        p = read_program("block a b\nc = add a b\ntell c\nd = add c 1\ne = add d c\ngive e d")
        self.assertEqual([len(held(p, point)) for point in points(p)], [2, 1, 1, 2, 2])
        self.assertEqual(fewest(p), (2, (0, 0)))

    def test_a_variable_that_is_never_used_counts_where_it_is_assigned(self):
        self.assertEqual(fewest(read_program("block a\nb = add 1 1\ntell a\ngive")), (2, (0, 1)))

    def test_the_point_comes_first_by_the_number_of_its_block(self):
        p = read_program("block\ngo 2\nblock x y\ngive\nblock a b\ngo 1 a b".replace("go 2", "go 2 1 1"))
        self.assertEqual(p.order, ("a", "b", "x", "y"))
        self.assertEqual(fewest(p), (2, (1, 0)))

    def test_many_programs(self):
        for seed in range(300):
            program = made(seed)
            with self.subTest(seed=seed):
                many = [len(oracles.held(program.blocks, point)) for point in points(program)]
                self.assertEqual(fewest(program), (max(many), points(program)[many.index(max(many))]))


class WrongTest(unittest.TestCase):
    def test_no_variable(self):
        p = read_program(EXAMPLE)
        for name in ("c", "zz", "A", "", "give", "ab", "x "):
            with self.subTest(name=name):
                for call in (
                    lambda: conflict(p, name, "x"), lambda: conflict(p, "x", name), lambda: conflict(p, name, name),
                    lambda: earlier(p, name),
                ):
                    with self.assertRaises(NoVariable) as told:
                        call()
                    self.assertEqual(told.exception.name, name)
                    self.assertIsInstance(told.exception, RegisterError)

    def test_the_first_name_comes_first(self):
        with self.assertRaises(NoVariable) as told:
            conflict(read_program(EXAMPLE), "q", "r")
        self.assertEqual(told.exception.name, "q")

    def test_the_same_name_twice(self):
        with self.assertRaises(NoVariable):
            conflict(read_program("block\ngive"), "a", "a")


class ConventionTest(unittest.TestCase):
    def test_keywords(self):
        p = read_program(EXAMPLE)
        self.assertIs(conflict(program=p, first="y", second="x"), True)
        self.assertEqual(earlier(program=p, name="t"), ("x", "y"))
        self.assertEqual(len(conflicts(program=p)), 6)
        self.assertEqual(fewest(program=p), (3, (1, 1)))

    def test_tuples_are_returned(self):
        p = read_program(EXAMPLE)
        self.assertIsInstance(earlier(p, "a"), tuple)
        for pair in (conflicts(p), *conflicts(p), fewest(p), fewest(p)[1]):
            self.assertIsInstance(pair, tuple)

    def test_later_changes_of_the_lists_of_a_program_have_no_effect(self):
        blocks = [[["a"], [["b", "add", "a", 1]], ["give", ["b", "a"]]]]
        p = Program(blocks)
        blocks[0][2][1].pop()
        blocks[0][1].append(["c", "add", 1, 1])
        self.assertEqual((conflicts(p), fewest(p)), ((("a", "b"),), (2, (0, 1))))

    def test_the_program_stays_as_it_was(self):
        p = read_program(EXAMPLE)
        conflicts(p)
        fewest(p)
        earlier(p, "t")
        with self.assertRaises(NoVariable):
            conflict(p, "x", "q")
        self.assertEqual(program_text(p), EXAMPLE)
        self.assertEqual(conflicts(p), conflicts(read_program(EXAMPLE)))


if __name__ == "__main__":
    unittest.main()
