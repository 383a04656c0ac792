"""Section 16: the sessions, as far as they have landed. Each stands alone."""

import unittest

from registerways.errors import BadText
from registerways.texts import program_text, read_program

TEXT = (
    "block a b\ngo 1 a b\nblock x y\nt = less x 100\nif t 2 else 3\n"
    "block\nz = add x y\ngo 1 y x\nblock\ngive x"
)


class ExampleTest(unittest.TestCase):
    def test_order(self):
        p = read_program(TEXT)
        self.assertEqual(p.order, ("a", "b", "x", "y", "t", "z"))
        self.assertEqual(program_text(p), TEXT)

    def test_flow(self):
        p = read_program(TEXT)
        from registerways.flow import avoiding, below, dominates
        self.assertEqual(
            [avoiding(p, 2, 3), avoiding(p, 1, 3), below(p), dominates(p, 1, 3)],
            [(0, 1, 3), None, (None, 0, 1, 1), True],
        )

    def test_bad_text(self):
        with self.assertRaises(BadText) as told:
            read_program("block\ngive 007")
        self.assertEqual(told.exception.line, 2)


if __name__ == "__main__":
    unittest.main()
