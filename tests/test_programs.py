"""[4], [5], [7], [8], [11], [12]: what a program is, what is wrong with one, and its variables."""

import copy
import itertools
import unittest

from registerways.errors import (
    AssignedTwice, NoBlock, NotAssigned, NotReached, RegisterError, WrongCount,
)
from registerways.programs import Program
from registerways.texts import read_program
from tests.samples import EXAMPLE, GRAPHS, all_graphs, end_to, graph, simple_paths

GIVE = ("give", ())

EVERY_KIND = (
    (("a", "b"), (("tell", "a"), ("c", "add", "a", 7)), ("if", "c", 1, ("a", 0), 2, ())),
    (("x", "y"), (("z", "equal", "x", "y"),), ("go", 1, ("z", "x"))),
    ((), (("s", "sub", 1, "b"), ("m", "mul", "s", "s"), ("l", "less", "m", 65535)), ("give", ("l", 3, "a"))),
)


def in_lists(value):
    """The value with lists in the place of all tuples."""
    if isinstance(value, tuple):
        return [in_lists(part) for part in value]
    return value


def mixed(value, depth=0):
    """The value with lists in the place of the tuples at every other depth."""
    if isinstance(value, tuple):
        parts = [mixed(part, depth + 1) for part in value]
        return parts if depth % 2 else tuple(parts)
    return value


class RaisingTest(unittest.TestCase):
    def assert_raised(self, error, attributes, blocks):
        with self.assertRaises(RegisterError) as told:
            Program(blocks)
        self.assertIs(type(told.exception), error)
        self.assertEqual(vars(told.exception), attributes)


class ConventionTest(unittest.TestCase):
    def test_tuples_and_lists_alike(self):
        for passed in (EVERY_KIND, in_lists(EVERY_KIND), mixed(EVERY_KIND), mixed((EVERY_KIND,))[0]):
            with self.subTest(passed=passed):
                program = Program(passed)
                self.assertEqual(program.blocks, EVERY_KIND)
                self.assertEqual(program.order, ("a", "b", "c", "x", "y", "z", "s", "m", "l"))

    def test_blocks_are_tuples_throughout(self):
        def check(value):
            self.assertNotIsInstance(value, list)
            if isinstance(value, tuple):
                for part in value:
                    check(part)

        for passed in (EVERY_KIND, in_lists(EVERY_KIND), mixed(EVERY_KIND)):
            check(Program(passed).blocks)

    def test_what_was_passed_stays_as_it_was(self):
        passed = in_lists(EVERY_KIND)
        before = copy.deepcopy(passed)
        Program(passed)
        self.assertEqual(passed, before)
        wrong = in_lists(EVERY_KIND)
        wrong[2][2][1].append("q")
        before = copy.deepcopy(wrong)
        self.assertRaises(NotAssigned, Program, wrong)
        self.assertEqual(wrong, before)

    def test_later_changes_have_no_effect(self):
        passed = in_lists(EVERY_KIND)
        program = Program(passed)
        passed[0][0][0] = "q"
        passed[0][1][1][2] = "b"
        passed[0][2][3][0] = 5
        passed[1][1].clear()
        passed[2][2] = ["go", 1, [1, 2]]
        del passed[1]
        self.assertEqual(program.blocks, EVERY_KIND)
        self.assertEqual(program.order, Program(EVERY_KIND).order)
        self.assertEqual(len(program), 9)
        self.assertNotIn("q", program)

    def test_by_keyword(self):
        self.assertEqual(Program(blocks=EVERY_KIND).blocks, EVERY_KIND)

    def test_blocks_may_be_passed_again(self):
        program = Program(EVERY_KIND)
        self.assertEqual(Program(program.blocks).blocks, program.blocks)


class WordTest(unittest.TestCase):
    def test_names_at_their_bounds(self):
        names = ("a", "z", "abcdef", "zzzzzz", "add", "sub", "mul", "less", "equal", "blocks", "els", "gives", "i", "f")
        program = Program(((names, (), ("give", names)),))
        self.assertEqual(program.order, names)
        self.assertEqual(program.blocks, ((names, (), ("give", names)),))

    def test_operation_words_as_names(self):
        blocks = ((("sub",), (("add", "add", "sub", "sub"), ("less", "mul", "add", 1)), ("give", ("less",))),)
        program = Program(blocks)
        self.assertEqual(program.blocks, blocks)
        self.assertEqual(program.order, ("sub", "add", "less"))

    def test_words_at_their_bounds(self):
        blocks = (((), (("a", "add", 0, 65535), ("tell", 65535), ("tell", 0)), ("give", (0, 65535))),)
        self.assertEqual(Program(blocks).blocks, blocks)


class VariableTest(unittest.TestCase):
    def test_parameters_and_names_of_instructions(self):
        program = Program(EVERY_KIND)
        self.assertEqual(len(program), 9)
        for name in ("a", "b", "c", "x", "y", "z", "s", "m", "l"):
            self.assertIs(name in program, True)
        for name in ("tell", "give", "add", "q", "", "ab", "A", "word", "if", "less"):
            self.assertIs(name in program, False)

    def test_no_variables(self):
        program = Program((((), (("tell", 1),), ("give", (2,))),))
        self.assertEqual(program.order, ())
        self.assertEqual(len(program), 0)
        self.assertIs("a" in program, False)

    def test_example(self):
        program = read_program(EXAMPLE)
        self.assertEqual(program.order, ("a", "b", "x", "y", "t", "z"))
        self.assertEqual(len(program), 6)

    def test_order_goes_down_before_it_goes_on(self):
        # 3 lies directly below 1, and 2 below the entry: so 3 comes before 2.
        program = Program((
            (("e",), (), ("if", "e", 1, (), 2, ())),
            ((), (("b", "add", 1, 1),), ("go", 3, (5,))),
            ((), (("c", "add", 1, 1),), GIVE),
            (("d",), (), GIVE),
        ))
        self.assertEqual(program.order, ("e", "b", "d", "c"))

    def test_order_in_a_block(self):
        # A parameter before the names of the instructions, also of a block with a low number.
        program = Program((
            (("q", "p"), (("tell", "q"), ("b", "add", 1, "p"), ("a", "add", 1, "b")), ("go", 2, (1, 2))),
            (("z", "y"), (("c", "add", 1, 1),), GIVE),
            (("x", "w"), (("d", "add", 1, 1),), ("go", 1, (3, 4))),
        ))
        self.assertEqual(program.order, ("q", "p", "b", "a", "x", "w", "d", "z", "y", "c"))

    def test_order_whole(self):
        for targets_of_blocks in GRAPHS:
            with self.subTest(targets=targets_of_blocks):
                self.check_order(targets_of_blocks)
        for targets_of_blocks in all_graphs(3):
            with self.subTest(targets=targets_of_blocks):
                self.check_order(targets_of_blocks)

    def check_order(self, targets_of_blocks):
        names = "abcdefghijkl"
        program = Program([
            [[], [[names[block], "add", 1, 1]], end_to(targets)]
            for block, targets in enumerate(targets_of_blocks)
        ])
        expected = []

        def take(block):
            expected.append(names[block])
            for child in range(len(targets_of_blocks)):
                if upper_of(targets_of_blocks, child) == block:
                    take(child)

        take(0)
        self.assertEqual(program.order, tuple(expected))


def upper_of(targets_of_blocks, lower):
    """The block that a block is directly below, word by word after [12]; None for the entry."""
    blocks = range(len(targets_of_blocks))
    above = [
        {upper for upper in blocks if all(upper in path for path in simple_paths(targets_of_blocks, block))}
        for block in blocks
    ]
    found = [
        upper for upper in blocks
        if upper != lower and upper in above[lower]
        and all(other in above[upper] for other in above[lower] if other != lower)
    ]
    assert len(found) == (0 if lower == 0 else 1)
    return found[0] if found else None


class AssignedTwiceTest(RaisingTest):
    def test_two_parameters(self):
        self.assert_raised(AssignedTwice, {"name": "b"}, ((("a", "b", "b", "a"), (), GIVE),))

    def test_parameter_and_instruction(self):
        self.assert_raised(AssignedTwice, {"name": "a"}, ((("a",), (("a", "add", 1, 1),), GIVE),))

    def test_two_instructions(self):
        instructions = (("a", "add", 1, 1), ("b", "add", 1, 1), ("b", "sub", 1, 1), ("a", "add", 1, 1))
        self.assert_raised(AssignedTwice, {"name": "b"}, (((), instructions, GIVE),))

    def test_two_blocks(self):
        self.assert_raised(AssignedTwice, {"name": "c"}, (
            (("a", "b", "c"), (), ("if", 1, 1, (1,), 2, ())),
            (("c",), (("b", "add", 1, 1),), GIVE),
            ((), (("a", "add", 1, 1),), GIVE),
        ))

    def test_parameters_before_instructions_and_block_before_block(self):
        # In the order of [12], block 2 would come before block 1.
        self.assert_raised(AssignedTwice, {"name": "b"}, (
            (("a", "b"), (), ("go", 2, (1,))),
            (("b",), (), GIVE),
            (("a",), (("b", "add", 1, 1),), ("go", 1, (1,))),
        ))

    def test_tell_assigns_nothing(self):
        blocks = ((("a",), (("tell", "a"), ("tell", "a")), GIVE),)
        self.assertEqual(Program(blocks).order, ("a",))


class NoBlockTest(RaisingTest):
    def test_go(self):
        for number in (0, -1, -2, 2, 3, 9999, -70000):
            with self.subTest(number=number):
                self.assert_raised(NoBlock, {"number": number}, (
                    ((), (), ("go", 1, ())), ((), (), ("go", number, ())),
                ))

    def test_one_block(self):
        for number in (0, 1, -1):
            self.assert_raised(NoBlock, {"number": number}, (((), (), ("go", number, ())),))

    def test_if(self):
        for first, second, raised in (
            (0, 1, 0), (1, 0, 0), (5, 1, 5), (1, 5, 5), (-1, 1, -1), (1, -1, -1),
            (5, 6, 5), (6, 5, 6), (0, 5, 0), (5, 0, 5), (-1, -2, -1), (2, 0, 2),
        ):
            with self.subTest(first=first, second=second):
                self.assert_raised(NoBlock, {"number": raised}, (
                    ((), (), ("go", 1, ())), ((), (), ("if", 1, first, (), second, ())),
                ))

    def test_first_block_first(self):
        self.assert_raised(NoBlock, {"number": 7}, (
            ((), (), ("if", 0, 1, (), 7, ())), ((), (), ("go", 6, ())), ((), (), ("go", 5, ())),
        ))


class WrongCountTest(RaisingTest):
    def test_go(self):
        for parameters, arguments in itertools.product(((), ("a",), ("a", "b")), ((), (1,), (1, 2), (1, 2, 3))):
            blocks = (((), (), ("go", 1, arguments)), (parameters, (), GIVE))
            with self.subTest(blocks=blocks):
                if len(parameters) == len(arguments):
                    self.assertEqual(Program(blocks).blocks, blocks)
                else:
                    self.assert_raised(WrongCount, {"block": 1}, blocks)

    def test_if(self):
        for first, second, raised in (((), (1, 2), 1), ((1,), (1,), 2), ((), (), 1), ((1, 2), (1, 2), 1)):
            with self.subTest(first=first, second=second):
                self.assert_raised(WrongCount, {"block": raised}, (
                    ((), (), ("if", 1, 1, first, 2, second)), (("a",), (), GIVE), (("b", "c"), (), GIVE),
                ))

    def test_first_target_comes_first(self):
        self.assert_raised(WrongCount, {"block": 2}, (
            ((), (), ("if", 1, 2, (), 1, ())), (("a",), (), GIVE), (("b",), (), GIVE),
        ))

    def test_first_block_comes_first(self):
        self.assert_raised(WrongCount, {"block": 2}, (
            ((), (), ("if", 1, 1, (1,), 2, (1, 2))), (("a",), (), ("go", 1, ())), (("b",), (), GIVE),
        ))

    def test_both_jumps_to_one_block(self):
        self.assert_raised(WrongCount, {"block": 1}, (
            ((), (), ("if", 1, 1, (1,), 1, (1, 2))), (("a",), (), GIVE),
        ))


class NotReachedTest(RaisingTest):
    def test_one(self):
        self.assert_raised(NotReached, {"block": 1}, (((), (), GIVE), ((), (), GIVE)))

    def test_least(self):
        self.assert_raised(NotReached, {"block": 2}, (
            ((), (), ("go", 3, ())), ((), (), GIVE), ((), (), GIVE), ((), (), ("go", 1, ())), ((), (), GIVE),
        ))

    def test_only_such_blocks_jump_to_it(self):
        self.assert_raised(NotReached, {"block": 1}, (
            ((), (), GIVE), ((), (), GIVE), ((), (), ("go", 1, ())),
        ))
        self.assert_raised(NotReached, {"block": 2}, (
            ((), (), ("go", 1, ())), ((), (), GIVE), ((), (), ("if", 1, 3, (), 1, ())), ((), (), ("go", 2, ())),
        ))

    def test_it_jumps_to_itself(self):
        self.assert_raised(NotReached, {"block": 1}, (((), (), GIVE), ((), (), ("go", 1, ()))))

    def test_reached_by_the_second_jump_alone(self):
        self.assertEqual(len(graph((1, 2), (1,), ()).blocks), 3)

    def test_reached_in_a_roundabout_way(self):
        self.assertEqual(len(graph((4,), (), (1, 1), (2,), (4, 3)).blocks), 5)


class NotAssignedTest(RaisingTest):
    def refused(self, name, *blocks):
        self.assert_raised(NotAssigned, {"name": name}, blocks)

    def test_never_assigned(self):
        self.refused("q", ((), (("tell", "q"),), GIVE))
        self.refused("q", ((), (("a", "add", "q", 1),), GIVE))
        self.refused("q", ((), (("a", "add", 1, "q"),), GIVE))
        self.refused("q", ((), (), ("give", (1, "q"))))
        self.refused("q", ((), (), ("go", 1, ("q",))), (("a",), (), GIVE))
        self.refused("q", ((), (), ("if", "q", 1, (), 1, ())), ((), (), GIVE))
        self.refused("q", ((), (), ("if", 1, 1, ("q",), 1, (1,))), (("a",), (), GIVE))
        self.refused("q", ((), (), ("if", 1, 1, (1,), 1, ("q",))), (("a",), (), GIVE))

    def test_an_operation_is_not_a_use(self):
        blocks = (((), (("a", "add", 1, 2),), GIVE),)
        self.assertEqual(Program(blocks).blocks, blocks)

    def test_later_in_the_same_block(self):
        self.refused("a", ((), (("tell", "a"), ("a", "add", 1, 1)), GIVE))
        self.refused("a", ((), (("b", "add", 1, "a"), ("a", "add", 1, 1)), GIVE))

    def test_its_own_assignment(self):
        self.refused("a", ((), (("a", "add", "a", 1),), GIVE))
        self.refused("a", ((), (("a", "add", 1, "a"),), GIVE))

    def test_own_assignment_in_a_loop(self):
        # The block is on every way from its end to itself, but not before its first run.
        self.refused("a", ((), (), ("go", 1, ())), ((), (("a", "add", "a", 1),), ("go", 1, ())))

    def test_earlier_in_the_same_block(self):
        blocks = (
            (("p",), (("a", "add", "p", "p"), ("b", "add", "a", "p"), ("tell", "b")), ("if", "b", 1, ("a",), 2, ())),
            (("x",), (("y", "add", "x", "x"),), ("go", 1, ("y",))),
            ((), (), ("give", ("p", "a", "b"))),
        )
        self.assertEqual(Program(blocks).blocks, blocks)

    def test_in_a_block_that_does_not_dominate(self):
        one, other = ((), (("a", "add", 1, 1),), ("go", 3, ())), ((), (), ("go", 3, ()))
        entry = ((), (), ("if", 1, 1, (), 2, ()))
        self.refused("a", entry, one, other, ((), (("tell", "a"),), GIVE))
        self.refused("a", entry, one, other, ((), (), ("give", ("a",))))
        self.refused("a", entry, one, ((), (("tell", "a"),), ("go", 3, ())), ((), (), GIVE))
        self.refused("a", entry, one, other, ((), (), ("if", "a", 1, (), 2, ())))

    def test_in_a_block_below(self):
        self.refused("a", ((), (("tell", "a"),), ("go", 1, (1,))), (("a",), (), GIVE))
        self.refused("a", ((), (), ("go", 1, ("a",))), (("a",), (), GIVE))

    def test_argument_for_its_own_block(self):
        # The argument is used in the end of block 1, where x is assigned.
        blocks = (((), (), ("go", 1, (1,))), (("x",), (), ("go", 1, ("x",))))
        self.assertEqual(Program(blocks).blocks, blocks)

    def test_in_a_dominating_block_with_a_higher_number(self):
        blocks = (
            ((), (), ("go", 2, ())),
            ((), (("tell", "a"),), ("give", ("a",))),
            ((), (("a", "add", 1, 1),), ("if", "a", 1, (), 2, ())),
        )
        self.assertEqual(Program(blocks).blocks, blocks)

    def test_first_in_the_order_of_the_blocks(self):
        self.refused("u", ((), (), ("go", 2, ())), ((), (("tell", "u"),), GIVE), ((), (("tell", "v"),), ("go", 1, ())))

    def test_first_in_a_block(self):
        parts = [("tell", "u"), ("a", "add", "v", "w"), ("b", "add", 1, "x")]
        end = ("give", ("y", "z"))
        for at, name in enumerate(("u", "v", "x", "y")):
            self.refused(name, ((), tuple(parts[at:]), end))
        self.refused("z", ((), (), ("give", ("z", "y"))))
        self.refused("w", ((), (("a", "add", "w", "v"),), GIVE))

    def test_from_left_to_right_in_an_if(self):
        operands = ["u", "v", "w", "x", "y"]
        for at in range(len(operands)):
            x, *rest = [1] * at + operands[at:]
            end = ("if", x, 1, tuple(rest[:2]), 2, tuple(rest[2:]))
            self.refused(operands[at], ((), (), end), (("a", "b"), (), GIVE), (("c", "d"), (), GIVE))

    def test_from_left_to_right_in_a_go(self):
        self.refused("v", ((), (), ("go", 1, (1, "v", "u"))), (("a", "b", "c"), (), GIVE))

    def test_each_assignment_against_each_use(self):
        for targets_of_blocks in GRAPHS[1:8]:
            blocks = range(len(targets_of_blocks))
            for home, user in itertools.product(blocks, repeat=2):
                made = [[[], [], end_to(targets)] for targets in targets_of_blocks]
                made[user][1].append(["tell", "a"])
                made[home][1].append(["a", "add", 1, 1])
                good = home != user and all(home in path for path in simple_paths(targets_of_blocks, user))
                with self.subTest(blocks=made):
                    if good:
                        self.assertEqual(Program(made).order, ("a",))
                    else:
                        self.assert_raised(NotAssigned, {"name": "a"}, made)


class SeveralFaultsTest(RaisingTest):
    def test_the_one_listed_first(self):
        faults = (
            (AssignedTwice, {"name": "x"}), (NoBlock, {"number": 9}), (WrongCount, {"block": 1}),
            (NotReached, {"block": 3}), (NotAssigned, {"name": "q"}),
        )
        for count in (1, 2, 3, 4, 5):
            for chosen in itertools.combinations(range(5), count):
                error, attributes = faults[chosen[0]]
                with self.subTest(chosen=chosen):
                    self.assert_raised(error, attributes, with_faults(chosen))

    def test_without_faults(self):
        self.assertEqual(Program(with_faults(())).order, ("a", "x", "y"))


def with_faults(chosen):
    """Blocks with some of the five faults of [11]: the later ones stand ahead of the earlier ones."""
    blocks = [
        [["a"], [], ["if", "a", 1, ["a"], 2, []]],
        [["x"], [], ["give", ["x"]]],
        [[], [["y", "add", "a", 1]], ["go", 1, ["y"]]],
    ]
    if 4 in chosen:
        blocks[0][1].append(["tell", "q"])
    if 3 in chosen:
        blocks.append([[], [], ["go", 1, [0]]])
    if 2 in chosen:
        blocks[0][2][3] = ["a", "a"]
    if 1 in chosen:
        blocks[1][2] = ["go", 9, []]
    if 0 in chosen:
        blocks[2][1].append(["x", "add", 1, 1])
    return blocks


if __name__ == "__main__":
    unittest.main()
