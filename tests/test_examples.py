"""Section 16: the sessions, as far as they have landed. Each stands alone."""

import unittest

from registerways.errors import BadText, Conflict, TooFew
from registerways.texts import program_text, read_program

TEXT = (
    "block a b\ngo 1 a b\nblock x y\nt = less x 100\nif t 2 else 3\n"
    "block\nz = add x y\ngo 1 y x\nblock\ngive x"
)


class ExampleTest(unittest.TestCase):
    def test_order(self):
        p = read_program(TEXT)
        self.assertEqual(p.order, ("a", "b", "x", "y", "t", "z"))
        self.assertEqual(program_text(p), TEXT)

    def test_flow(self):
        p = read_program(TEXT)
        from registerways.flow import avoiding, below, dominates
        self.assertEqual(
            [avoiding(p, 2, 3), avoiding(p, 1, 3), below(p), dominates(p, 1, 3)],
            [(0, 1, 3), None, (None, 0, 1, 1), True],
        )

    def test_fewest(self):
        p = read_program(TEXT)
        from registerways.conflicts import fewest
        self.assertEqual(fewest(p), (3, (1, 1)))

    def test_held_and_live(self):
        p = read_program(TEXT)
        from registerways.liveness import held, live
        self.assertEqual(
            [held(p, (2, 1)), live(p, (2, 1)), held(p, (0, 0))],
            [("x", "y", "z"), ("x", "y"), ("a", "b")],
        )

    def test_conflicts(self):
        p = read_program(TEXT)
        from registerways.conflicts import conflicts
        self.assertEqual(
            conflicts(p),
            (("a", "b"), ("x", "y"), ("x", "t"), ("y", "t"), ("x", "z"), ("y", "z")),
        )

    def test_how_many(self):
        p = read_program(TEXT)
        from registerways.allocations import how_many
        self.assertEqual([how_many(p, 2), how_many(p, 3)], [0, 36])

    def test_first_fit(self):
        p = read_program(TEXT)
        from registerways.allocations import first_fit
        self.assertEqual(first_fit(p, 3).registers, (0, 1, 0, 1, 2, 2))

    def test_allocation_at(self):
        p = read_program(TEXT)
        from registerways.allocations import allocation_at
        self.assertEqual(allocation_at(p, 3, 35).registers, (2, 1, 2, 1, 0, 0))

    def test_rank(self):
        p = read_program(TEXT)
        from registerways.allocations import Allocation
        self.assertEqual(Allocation(p, 3, (1, 0, 2, 0, 1, 1)).rank, 16)

    def test_run(self):
        p = read_program(TEXT)
        from registerways.running import run
        r = run(p, (3, 250))
        self.assertEqual([r.told, r.given, r.spent], [(), (250,), 8])

    def test_use_path(self):
        p = read_program(TEXT)
        from registerways.liveness import use_path
        self.assertEqual(
            [use_path(p, (0, 0), "x"), use_path(p, (2, 1), "x"), use_path(p, (0, 0), "b")],
            [None, ((2, 1),), ((0, 0),)],
        )

    def test_conflict(self):
        p = read_program(TEXT)
        from registerways.allocations import Allocation
        with self.assertRaises(Conflict) as told:
            Allocation(p, 3, (0, 0, 0, 1, 2, 2))
        self.assertEqual((told.exception.first, told.exception.second), ("a", "b"))

    def test_too_few(self):
        p = read_program(TEXT)
        from registerways.allocations import first_fit
        with self.assertRaises(TooFew) as told:
            first_fit(p, 2)
        self.assertEqual(told.exception.size, 2)

    def test_bad_text(self):
        with self.assertRaises(BadText) as told:
            read_program("block\ngive 007")
        self.assertEqual(told.exception.line, 2)


if __name__ == "__main__":
    unittest.main()
