"""[18] to [20]: points, live and held variables, and the paths to their uses."""

import unittest

from registerways.errors import NoPoint, NoVariable, RegisterError
from registerways.liveness import held, live, points, use_path
from registerways.programs import Program
from registerways.texts import program_text, read_program
from tests import oracles
from tests.making import made
from tests.samples import EXAMPLE, GRAPHS, graph

LOOP = (
    "block n\ngo 1 n 0\nblock i s\nc = less 0 i\nif c 2 else 3\n"
    "block\nt = add s i\nj = sub i 1\ngo 1 j t\nblock\ntell n\ngive s"
)


class PointsTest(unittest.TestCase):
    def test_the_example(self):
        self.assertEqual(points(read_program(EXAMPLE)), ((0, 0), (1, 0), (1, 1), (2, 0), (2, 1), (3, 0)))

    def test_one_block(self):
        self.assertEqual(points(read_program("block\ngive")), ((0, 0),))
        self.assertEqual(points(read_program("block a\ntell a\nb = add a a\ngive")), ((0, 0), (0, 1), (0, 2)))

    def test_many_programs(self):
        for seed in range(100):
            program = made(seed)
            self.assertEqual(points(program), tuple(oracles.points(program.blocks)))


class LiveTest(unittest.TestCase):
    def test_the_example(self):
        p = read_program(EXAMPLE)
        self.assertEqual(
            [live(p, point) for point in points(p)],
            [("a", "b"), ("x", "y"), ("x", "y", "t"), ("x", "y"), ("x", "y"), ("x",)],
        )
        self.assertEqual(
            [held(p, point) for point in points(p)],
            [("a", "b"), ("x", "y"), ("x", "y", "t"), ("x", "y"), ("x", "y", "z"), ("x",)],
        )

    def test_a_variable_that_is_never_used(self):
        p = read_program("block a b\nc = add 1 2\ntell 3\ngive b")
        self.assertEqual([live(p, point) for point in points(p)], [("b",)] * 3)
        self.assertEqual([held(p, point) for point in points(p)], [("a", "b"), ("b", "c"), ("b",)])

    def test_no_variables(self):
        for targets in GRAPHS:
            p = graph(*targets)
            for point in points(p):
                self.assertEqual((live(p, point), held(p, point)), ((), ()))

    def test_a_loop(self):
        p = read_program(LOOP)
        self.assertEqual(p.order, ("n", "i", "s", "c", "t", "j"))
        self.assertEqual([(point, live(p, point)) for point in points(p)], [
            ((0, 0), ("n",)),
            ((1, 0), ("n", "i", "s")),
            ((1, 1), ("n", "i", "s", "c")),
            ((2, 0), ("n", "i", "s")),
            ((2, 1), ("n", "i", "t")),
            ((2, 2), ("n", "t", "j")),
            ((3, 0), ("n", "s")),
            ((3, 1), ("s",)),
        ])
        self.assertEqual([held(p, point) for point in points(p)], [live(p, point) for point in points(p)])

    def test_a_use_before_the_assignment_in_a_loop_ends_the_life_at_the_assignment(self):
        # From behind the use of c, the next use lies behind the next assignment.
        p = read_program("block\ngo 1\nblock\nc = add 1 1\ntell c\nd = add 2 2\ngo 1")
        self.assertEqual([live(p, point) for point in points(p)], [(), (), ("c",), (), ()])
        self.assertEqual([held(p, point) for point in points(p)], [(), (), ("c",), (), ("d",)])

    def test_arguments_and_the_first_operand_of_an_if_are_used_at_the_end(self):
        p = read_program("block a b c\nif a 1 b else 1 c\nblock x\ngive")
        self.assertEqual(live(p, (0, 0)), ("a", "b", "c"))
        self.assertEqual((live(p, (1, 0)), held(p, (1, 0))), ((), ("x",)))

    def test_an_if_that_jumps_twice_to_one_block(self):
        p = read_program("block a b\nif 1 1 a 2 else 1 b b\nblock x y\ngive y a")
        self.assertEqual((live(p, (0, 0)), live(p, (1, 0)), held(p, (1, 0))), (("a", "b"), ("a", "y"), ("a", "x", "y")))

    def test_the_parameters_of_a_block_are_assigned_at_its_beginning(self):
        p = read_program("block\ngo 1 1 2\nblock x y\ntell x\ngo 1 x x")
        self.assertEqual((live(p, (1, 0)), held(p, (1, 0))), (("x",), ("x", "y")))
        self.assertEqual((live(p, (0, 0)), live(p, (1, 1)), held(p, (1, 1))), ((), ("x",), ("x",)))

    def test_the_order_is_not_that_of_the_numbers_of_blocks(self):
        p = read_program("block\ngo 2 1\nblock\nb = add a 1\ngive b a\nblock a\ngo 1")
        self.assertEqual(p.order, ("a", "b"))
        self.assertEqual(live(p, (1, 1)), ("a", "b"))

    def test_many_programs(self):
        for seed in range(250):
            program = made(seed)
            for point in points(program):
                with self.subTest(seed=seed, point=point):
                    found = oracles.live(program.blocks, point)
                    self.assertEqual(live(program, point), tuple(name for name in program.order if name in found))
                    found = oracles.held(program.blocks, point)
                    self.assertEqual(held(program, point), tuple(name for name in program.order if name in found))


class UsePathTest(unittest.TestCase):
    def test_a_use_at_once(self):
        p = read_program(EXAMPLE)
        self.assertEqual(use_path(p, (0, 0), "b"), ((0, 0),))
        self.assertEqual(use_path(p, (2, 1), "x"), ((2, 1),))
        self.assertEqual(use_path(p, (1, 1), "t"), ((1, 1),))

    def test_a_longer_path(self):
        p = read_program(LOOP)
        self.assertEqual(use_path(p, (0, 0), "n"), ((0, 0),))
        self.assertEqual(use_path(p, (1, 0), "n"), ((1, 0), (1, 1), (3, 0)))
        self.assertEqual(use_path(p, (2, 1), "n"), ((2, 1), (2, 2), (1, 0), (1, 1), (3, 0)))

    def test_the_shorter_one_of_two_ways(self):
        p = read_program("block a\nif 1 1 else 2\nblock\ngo 3\nblock\ngo 4\nblock\ngo 4\nblock\ngive a")
        self.assertEqual(use_path(p, (0, 0), "a"), ((0, 0), (2, 0), (4, 0)))

    def test_none(self):
        p = read_program(EXAMPLE)
        self.assertIsNone(use_path(p, (0, 0), "x"))
        self.assertIsNone(use_path(p, (2, 1), "z"))
        self.assertIsNone(use_path(p, (1, 0), "a"))
        self.assertIsNone(use_path(p, (3, 0), "y"))

    def test_no_path_leads_to_the_assignment(self):
        p = read_program("block\ngo 1\nblock\nc = add 1 1\ntell c\ngo 1")
        self.assertIsNone(use_path(p, (1, 2), "c"))
        self.assertIsNone(use_path(p, (1, 0), "c"))
        self.assertEqual(use_path(p, (1, 1), "c"), ((1, 1),))

    def test_a_path_may_begin_at_the_assignment_but_not_come_back(self):
        p = read_program("block\ngo 1 1\nblock x\nif x 1 2 else 2\nblock\ntell 1\ngive x")
        self.assertEqual(use_path(p, (2, 0), "x"), ((2, 0), (2, 1)))
        self.assertEqual(use_path(p, (1, 0), "x"), ((1, 0),))
        q = read_program("block\ngo 1 1\nblock x\ntell 1\nif 1 1 2 else 2\nblock\ngive x")
        self.assertEqual(use_path(q, (1, 0), "x"), ((1, 0), (1, 1), (2, 0)))

    def test_many_programs(self):
        for seed in range(150):
            program = made(seed)
            for point in points(program):
                for name in program.order:
                    with self.subTest(seed=seed, point=point, name=name):
                        path = use_path(program, point, name)
                        many = oracles.points_of_shortest_use_path(program.blocks, point, name)
                        self.assertEqual(path is None, name not in live(program, point))
                        self.assertEqual(None if path is None else len(path), many)
                        if path is not None:
                            self.assertIsInstance(path, tuple)
                            self.assertEqual(path[0], point)
                            self.assertTrue(oracles.is_use_path(program.blocks, path, name))


class WrongTest(unittest.TestCase):
    POINTS = (
        (-1, 0), (0, -1), (-1, -1), (4, 0), (0, 1), (1, 2), (2, 2), (3, 1), (1, -2), (-4, 0), (4, 1), (7, 7),
        (10 ** 70, 0), (0, 10 ** 70),
    )

    def test_no_point(self):
        p = read_program(EXAMPLE)
        for point in self.POINTS:
            for function in (live, held, lambda p, point: use_path(p, point, "x")):
                for given in (point, list(point)):
                    with self.subTest(point=given):
                        with self.assertRaises(NoPoint) as told:
                            function(p, given)
                        self.assertEqual(tuple(told.exception.point), point)
                        self.assertIsInstance(told.exception, RegisterError)

    def test_no_variable(self):
        p = read_program(EXAMPLE)
        for name in ("c", "zz", "A", "", "block", "ab", "x "):
            with self.subTest(name=name):
                with self.assertRaises(NoVariable) as told:
                    use_path(p, (1, 0), name)
                self.assertEqual(told.exception.name, name)

    def test_the_point_comes_first(self):
        with self.assertRaises(NoPoint):
            use_path(read_program(EXAMPLE), (9, 9), "none")

    def test_no_variable_at_all(self):
        with self.assertRaises(NoVariable):
            use_path(read_program("block\ngive"), (0, 0), "a")


class ConventionTest(unittest.TestCase):
    def test_points_as_lists(self):
        p = read_program(EXAMPLE)
        point = [1, 1]
        self.assertEqual(live(p, point), ("x", "y", "t"))
        self.assertEqual(held(p, point), ("x", "y", "t"))
        self.assertEqual(use_path(p, point, "t"), ((1, 1),))
        self.assertEqual(point, [1, 1])

    def test_a_path_from_a_list_contains_tuples(self):
        for point in use_path(read_program(LOOP), [2, 1], "n"):
            self.assertIsInstance(point, tuple)

    def test_keywords(self):
        p = read_program(EXAMPLE)
        self.assertEqual(len(points(program=p)), 6)
        self.assertEqual(live(program=p, point=(2, 1)), ("x", "y"))
        self.assertEqual(held(program=p, point=(2, 1)), ("x", "y", "z"))
        self.assertEqual(use_path(program=p, point=(2, 1), name="x"), ((2, 1),))

    def test_tuples_are_returned(self):
        p = read_program(EXAMPLE)
        self.assertIsInstance(points(p), tuple)
        for point in points(p):
            self.assertIsInstance(point, tuple)
            self.assertIsInstance(live(p, point), tuple)
            self.assertIsInstance(held(p, point), tuple)

    def test_later_changes_of_the_lists_of_a_program_have_no_effect(self):
        blocks = [[["a"], [["b", "add", "a", 1]], ["go", 1, ["b"]]], [["c"], [], ["give", ["c", "a"]]]]
        p = Program(blocks)
        before = [(point, live(p, point), held(p, point)) for point in points(p)]
        blocks[0][1][0][2] = 7
        blocks[1][2][1].clear()
        blocks[1][1].append(["tell", 1])
        self.assertEqual([(point, live(p, point), held(p, point)) for point in points(p)], before)
        self.assertEqual(before, [
            ((0, 0), ("a",), ("a",)), ((0, 1), ("a", "b"), ("a", "b")), ((1, 0), ("a", "c"), ("a", "c")),
        ])

    def test_an_error_changes_nothing(self):
        p = read_program(EXAMPLE)
        for call in (lambda: live(p, (9, 9)), lambda: use_path(p, (0, 0), "q")):
            with self.assertRaises(RegisterError):
                call()
        self.assertEqual(program_text(p), EXAMPLE)
        self.assertEqual(points(p), points(read_program(EXAMPLE)))


if __name__ == "__main__":
    unittest.main()
