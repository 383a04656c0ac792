"""Section 16: all its sessions. Each stands alone."""

import unittest

from registerways.errors import BadText, Chordless, Conflict, Taken, TooFew
from registerways.texts import program_text, read_program

TEXT = (
    "block a b\ngo 1 a b\nblock x y\nt = less x 100\nif t 2 else 3\n"
    "block\nz = add x y\ngo 1 y x\nblock\ngive x"
)


class ExampleTest(unittest.TestCase):
    def test_order(self):
        p = read_program(TEXT)
        self.assertEqual(p.order, ("a", "b", "x", "y", "t", "z"))
        self.assertEqual(program_text(p), TEXT)

    def test_flow(self):
        p = read_program(TEXT)
        from registerways.flow import avoiding, below, dominates
        self.assertEqual(
            [avoiding(p, 2, 3), avoiding(p, 1, 3), below(p), dominates(p, 1, 3)],
            [(0, 1, 3), None, (None, 0, 1, 1), True],
        )

    def test_fewest(self):
        p = read_program(TEXT)
        from registerways.conflicts import fewest
        self.assertEqual(fewest(p), (3, (1, 1)))

    def test_held_and_live(self):
        p = read_program(TEXT)
        from registerways.liveness import held, live
        self.assertEqual(
            [held(p, (2, 1)), live(p, (2, 1)), held(p, (0, 0))],
            [("x", "y", "z"), ("x", "y"), ("a", "b")],
        )

    def test_conflicts(self):
        p = read_program(TEXT)
        from registerways.conflicts import conflicts
        self.assertEqual(
            conflicts(p),
            (("a", "b"), ("x", "y"), ("x", "t"), ("y", "t"), ("x", "z"), ("y", "z")),
        )

    def test_how_many(self):
        p = read_program(TEXT)
        from registerways.allocations import how_many
        self.assertEqual([how_many(p, 2), how_many(p, 3)], [0, 36])

    def test_first_fit(self):
        p = read_program(TEXT)
        from registerways.allocations import first_fit
        self.assertEqual(first_fit(p, 3).registers, (0, 1, 0, 1, 2, 2))

    def test_allocation_at(self):
        p = read_program(TEXT)
        from registerways.allocations import allocation_at
        self.assertEqual(allocation_at(p, 3, 35).registers, (2, 1, 2, 1, 0, 0))

    def test_rank(self):
        p = read_program(TEXT)
        from registerways.allocations import Allocation
        self.assertEqual(Allocation(p, 3, (1, 0, 2, 0, 1, 1)).rank, 16)

    def test_run(self):
        p = read_program(TEXT)
        from registerways.running import run
        r = run(p, (3, 250))
        self.assertEqual([r.told, r.given, r.spent], [(), (250,), 8])

    def test_swap_way(self):
        p = read_program(TEXT)
        from registerways.allocations import Allocation, first_fit
        from registerways.swaps import swap_way
        self.assertEqual(
            swap_way(first_fit(p, 3), Allocation(p, 3, (1, 0, 2, 0, 1, 1))),
            (("a", 1), ("x", 2), ("y", 0)),
        )

    def test_code(self):
        p = read_program(TEXT)
        from registerways.allocations import first_fit
        from registerways.machines import Code
        r = Code(first_fit(p, 3))((3, 250))
        self.assertEqual([r.told, r.given, r.spent], [(), (250,), 8])

    def test_in_turn(self):
        from registerways.copying import in_turn
        self.assertEqual(len(in_turn(((0, ("reg", 1)), (1, ("reg", 0))), 3)), 3)

    def test_copies_needed(self):
        p = read_program(TEXT)
        from registerways.allocations import first_fit
        from registerways.flatcode import copies_needed
        self.assertEqual(copies_needed(first_fit(p, 3)), 3)

    def test_fixed(self):
        p = read_program(TEXT)
        from registerways.allocations import first_fit
        from registerways.joining import fixed
        self.assertEqual(fixed(first_fit(p, 3)), ("x", "y", "t", "z"))

    def test_joined(self):
        p = read_program(TEXT)
        from registerways.allocations import Allocation, first_fit
        from registerways.joining import joined
        v = joined(first_fit(p, 3), Allocation(p, 3, (1, 0, 2, 0, 1, 1)))
        self.assertEqual([v.holds, v.way, v.name, v.point, v.numbers], [False, None, "x", (1, 1), None])

    def test_reachable(self):
        p = read_program(TEXT)
        from registerways.allocations import first_fit
        from registerways.joining import reachable
        self.assertEqual(reachable(first_fit(p, 3)), (0, 6, 12, 18, 24, 30))

    def test_realized(self):
        from registerways.shapes import realized
        with self.assertRaises(Chordless):
            realized(("a", "b", "c", "d"), (("a", "b"), ("b", "c"), ("c", "d"), ("d", "a")))
        from registerways.conflicts import conflict
        q = realized(("a", "b", "c"), (("a", "b"), ("c", "b")))
        self.assertEqual(
            [conflict(q, "a", "b"), conflict(q, "b", "c"), conflict(q, "a", "c"), len(q)],
            [True, True, False, 3],
        )

    def test_reassigned(self):
        p = read_program(TEXT)
        from registerways.allocations import first_fit
        from registerways.reassigning import free_registers, reassigned
        a = first_fit(p, 3)
        self.assertEqual(
            [free_registers(a, "a"), reassigned(a, "a", 2).registers],
            [(2,), (2, 1, 0, 1, 2, 2)],
        )
        with self.assertRaises(Taken) as told:
            reassigned(first_fit(p, 3), "t", 0)
        self.assertEqual(told.exception.other, "x")

    def test_kept(self):
        p = read_program(TEXT)
        from registerways.keeping import Kept
        k = Kept(p, 3)
        k.put_in(3, 0, ("w", "add", "x", 1))
        self.assertEqual([k.now["w"], k.now.program.order, k.changed], [1, ("a", "b", "x", "y", "t", "z", "w"), 0])

    def test_use_path(self):
        p = read_program(TEXT)
        from registerways.liveness import use_path
        self.assertEqual(
            [use_path(p, (0, 0), "x"), use_path(p, (2, 1), "x"), use_path(p, (0, 0), "b")],
            [None, ((2, 1),), ((0, 0),)],
        )

    def test_conflict(self):
        p = read_program(TEXT)
        from registerways.allocations import Allocation
        with self.assertRaises(Conflict) as told:
            Allocation(p, 3, (0, 0, 0, 1, 2, 2))
        self.assertEqual((told.exception.first, told.exception.second), ("a", "b"))

    def test_too_few(self):
        p = read_program(TEXT)
        from registerways.allocations import first_fit
        with self.assertRaises(TooFew) as told:
            first_fit(p, 2)
        self.assertEqual(told.exception.size, 2)

    def test_bad_text(self):
        with self.assertRaises(BadText) as told:
            read_program("block\ngive 007")
        self.assertEqual(told.exception.line, 2)


if __name__ == "__main__":
    unittest.main()
