"""[14], [15], and of [30] what it says of trail: runs and their results."""

import unittest

from registerways.errors import RegisterError, WrongCount
from registerways.programs import Program
from registerways.running import Result, run, trail
from registerways.texts import program_text, read_program
from tests.making import made, made_inputs
from tests.oracles import executed
from tests.samples import EXAMPLE

WORDS = (0, 1, 2, 99, 255, 256, 257, 32767, 32768, 65534, 65535)


def outcome(result):
    return (result.told, result.given, result.spent)


def run_text(text, inputs=(), fuel=200):
    return outcome(run(read_program(text), inputs, fuel))


def computed(operation, x, y):
    return run_text(f"block a b\nc = {operation} a b\ngive c", (x, y))[1][0]


class OperationTest(unittest.TestCase):
    def test_add(self):
        for x in WORDS:
            for y in WORDS:
                self.assertEqual(computed("add", x, y), x + y if x + y < 65536 else x + y - 65536)

    def test_sub(self):
        for x in WORDS:
            for y in WORDS:
                self.assertEqual(computed("sub", x, y), x - y if x >= y else x - y + 65536)

    def test_mul(self):
        for x in WORDS:
            for y in WORDS:
                product = computed("mul", x, y)
                self.assertIn(product, range(65536))
                self.assertEqual((x * y - product) % 65536, 0)

    def test_less(self):
        for x in WORDS:
            for y in WORDS:
                self.assertEqual(computed("less", x, y), 1 if x < y else 0)

    def test_equal(self):
        for x in WORDS:
            for y in WORDS:
                self.assertEqual(computed("equal", x, y), 1 if x == y else 0)

    def test_the_edges_of_the_words(self):
        self.assertEqual(computed("add", 65535, 1), 0)
        self.assertEqual(computed("add", 65535, 65535), 65534)
        self.assertEqual(computed("sub", 0, 1), 65535)
        self.assertEqual(computed("sub", 0, 65535), 1)
        self.assertEqual(computed("mul", 65535, 65535), 1)
        self.assertEqual(computed("mul", 256, 256), 0)
        self.assertEqual(computed("less", 0, 65535), 1)
        self.assertEqual(computed("less", 65535, 0), 0)
        self.assertEqual(computed("less", 65535, 65535), 0)
        self.assertEqual(computed("equal", 0, 65535), 0)

    def test_the_results_of_less_and_equal_are_integers(self):
        for operation in ("less", "equal"):
            for y in (7, 8):
                self.assertIs(type(computed(operation, 7, y)), int)

    def test_words_as_operands(self):
        self.assertEqual(run_text("block\na = sub 3 5\ntell 65535\ntell 0\ngive a 7"), ((65535, 0), (65534, 7), 4))

    def test_one_variable_twice(self):
        self.assertEqual(run_text("block a\nb = mul a a\nc = sub b b\ngive b c b", (9,)), ((), (81, 0, 81), 3))


class EndTest(unittest.TestCase):
    def test_give_without_operands(self):
        self.assertEqual(run_text("block\ngive"), ((), (), 1))

    def test_give_tells_the_values_from_left_to_right(self):
        self.assertEqual(run_text("block a b\ngive b 5 a b", (1, 2)), ((), (2, 5, 1, 2), 1))

    def test_go_passes_arguments(self):
        self.assertEqual(run_text("block a\ngo 1 a 3\nblock x y\ngive y x", (8,)), ((), (3, 8), 2))

    def test_if_jumps_to_its_first_block_unless_the_word_is_0(self):
        text = "block a\nif a 1 5 else 2 6\nblock x\ngive 1 x\nblock y\ngive 2 y"
        self.assertEqual(run_text(text, (0,)), ((), (2, 6), 2))
        for word in (1, 2, 256, 65535):
            self.assertEqual(run_text(text, (word,)), ((), (1, 5), 2))

    def test_if_with_a_word(self):
        text = "block\nif {} 1 else 2\nblock\ngive 1\nblock\ngive 2"
        self.assertEqual(run_text(text.format(0))[1], (2,))
        self.assertEqual(run_text(text.format(1))[1], (1,))
        self.assertEqual(run_text(text.format(65535))[1], (1,))

    def test_if_that_jumps_twice_to_one_block(self):
        text = "block a\nif a 1 a 10 else 1 20 a\nblock x y\ngive x y"
        self.assertEqual(run_text(text, (4,)), ((), (4, 10), 2))
        self.assertEqual(run_text(text, (0,)), ((), (20, 0), 2))

    def test_all_arguments_are_evaluated_before_parameters_change(self):
        text = "block\ngo 1 1 2 3\nblock x y z\ntell x\ntell y\ntell z\ngo 1 y z x"
        self.assertEqual(run_text(text, (), 12)[0], (1, 2, 3, 2, 3, 1, 3, 1, 2))

    def test_a_loop_ends(self):
        text = "block n\ngo 1 n 1\nblock i p\nif i 2 else 3\nblock\nj = sub i 1\nq = mul p 2\ngo 1 j q\nblock\ngive p"
        self.assertEqual(run_text(text, (5,)), ((), (32,), 1 + 5 * 4 + 2))
        self.assertEqual(run_text(text, (16,)), ((), (0,), 1 + 16 * 4 + 2))

    def test_variables_of_blocks_above_keep_their_words(self):
        text = "block a\nb = add a 1\ngo 1 a\nblock x\nc = add x b\nif x 2 else 3\nblock\ngo 1 0\nblock\ngive a b c"
        self.assertEqual(run_text(text, (4,)), ((), (4, 5, 5), 8))


class FuelTest(unittest.TestCase):
    TEXT = "block a\ntell a\nb = add a 1\ntell b\ngive b a"

    def test_no_fuel(self):
        self.assertEqual(run_text(self.TEXT, (3,), 0), ((), None, 0))

    def test_fuel_that_ends_before_give(self):
        self.assertEqual(run_text(self.TEXT, (3,), 1), ((3,), None, 1))
        self.assertEqual(run_text(self.TEXT, (3,), 2), ((3,), None, 2))
        self.assertEqual(run_text(self.TEXT, (3,), 3), ((3, 4), None, 3))

    def test_fuel_that_ends_with_give(self):
        self.assertEqual(run_text(self.TEXT, (3,), 4), ((3, 4), (4, 3), 4))

    def test_fuel_that_is_left(self):
        self.assertEqual(run_text(self.TEXT, (3,), 5), ((3, 4), (4, 3), 4))
        self.assertEqual(run_text(self.TEXT, (3,), 2000), ((3, 4), (4, 3), 4))

    def test_give_without_operands_ends_the_run_too(self):
        self.assertEqual(run_text("block\ngive", (), 0), ((), None, 0))
        self.assertEqual(run_text("block\ngive", (), 1), ((), (), 1))
        self.assertEqual(run_text("block\ngive", (), 2000), ((), (), 1))

    def test_200_units_if_none_are_named(self):
        text = "block\ngo 1 0\nblock n\ntell n\nm = add n 1\ngo 1 m"
        self.assertEqual(outcome(run(read_program(text), ())), (tuple(range(67)), None, 200))
        self.assertEqual(len(list(trail(read_program(text), ()))), 200)

    def test_2000_units(self):
        told, given, spent = run_text("block\ngo 1 0\nblock n\ntell n\nm = add n 1\ngo 1 m", (), 2000)
        self.assertEqual((told, given, spent), (tuple(range(667)), None, 2000))

    def test_each_fuel_of_the_example(self):
        p = read_program(EXAMPLE)
        for fuel in range(12):
            result = run(p, (3, 250), fuel)
            self.assertEqual(result.spent, min(fuel, 8))
            self.assertEqual(result.given, (250,) if fuel >= 8 else None)


class InputTest(unittest.TestCase):
    def test_a_wrong_number_of_inputs(self):
        p = read_program(EXAMPLE)
        none = read_program("block\ngive")
        for program, inputs in ((p, ()), (p, (1,)), (p, [1, 2, 3]), (none, (0,)), (none, [1, 2])):
            for fuel in (0, 1, 200):
                with self.subTest(inputs=inputs, fuel=fuel):
                    with self.assertRaises(WrongCount) as told:
                        run(program, inputs, fuel)
                    self.assertEqual(told.exception.block, 0)
                    self.assertIsInstance(told.exception, RegisterError)
                    with self.assertRaises(WrongCount) as told:
                        list(trail(program, inputs, fuel))
                    self.assertEqual(told.exception.block, 0)

    def test_inputs_as_a_list(self):
        p = read_program(EXAMPLE)
        inputs = [3, 250]
        self.assertEqual(outcome(run(p, inputs)), ((), (250,), 8))
        self.assertEqual(len(list(trail(p, inputs))), 8)
        self.assertEqual(inputs, [3, 250])

    def test_keywords(self):
        p = read_program(EXAMPLE)
        self.assertEqual(outcome(run(program=p, inputs=(3, 250), fuel=7)), ((), None, 7))
        self.assertEqual(len(list(trail(program=p, inputs=(3, 250), fuel=7))), 7)

    def test_the_program_stays_as_it_was(self):
        p = read_program(EXAMPLE)
        blocks = p.blocks
        first = outcome(run(p, (1, 2), 50))
        list(trail(p, (3, 250)))
        self.assertEqual(outcome(run(p, (1, 2), 50)), first)
        self.assertEqual(p.blocks, blocks)
        self.assertEqual(program_text(p), EXAMPLE)


class ResultTest(unittest.TestCase):
    def test_attributes(self):
        self.assertEqual(outcome(Result((1, 2), (3,), 4)), ((1, 2), (3,), 4))
        self.assertEqual(outcome(Result(told=(), given=None, spent=0)), ((), None, 0))

    def test_lists(self):
        told, given = [1, 2], [3]
        result = Result(told, given, 4)
        told.append(9)
        given.clear()
        self.assertEqual(outcome(result), ((1, 2), (3,), 4))

    def test_run_returns_a_result_of_tuples(self):
        result = run(read_program("block\ntell 1\ngive 2"), [])
        self.assertIsInstance(result, Result)
        self.assertIsInstance(result.told, tuple)
        self.assertIsInstance(result.given, tuple)


class TrailTest(unittest.TestCase):
    def test_the_example(self):
        p = read_program(EXAMPLE)
        ab = {"a": 3, "b": 250}
        self.assertEqual(list(trail(p, (3, 250))), [
            ((0, 0), ab),
            ((1, 0), {**ab, "x": 3, "y": 250}),
            ((1, 1), {**ab, "x": 3, "y": 250, "t": 1}),
            ((2, 0), {**ab, "x": 3, "y": 250, "t": 1}),
            ((2, 1), {**ab, "x": 3, "y": 250, "t": 1, "z": 253}),
            ((1, 0), {**ab, "x": 250, "y": 3, "t": 1, "z": 253}),
            ((1, 1), {**ab, "x": 250, "y": 3, "t": 0, "z": 253}),
            ((3, 0), {**ab, "x": 250, "y": 3, "t": 0, "z": 253}),
        ])

    def test_as_many_pairs_as_units_of_fuel_are_spent(self):
        p = read_program(EXAMPLE)
        whole = list(trail(p, (3, 250)))
        for fuel in range(12):
            self.assertEqual(list(trail(p, (3, 250), fuel)), whole[:fuel])

    def test_no_variables(self):
        p = read_program("block\ntell 4\ngive")
        self.assertEqual(list(trail(p, ())), [((0, 0), {}), ((0, 1), {})])

    def test_an_endless_run_can_be_left(self):
        p = read_program("block\ngo 1\nblock\ngo 1")
        seen = []
        for point, words in trail(p, (), 2000):
            seen.append((point, words))
            if len(seen) == 3:
                break
        self.assertEqual(seen, [((0, 0), {}), ((1, 0), {}), ((1, 0), {})])

    def test_what_is_done_to_a_dict_changes_no_later_one(self):
        p = read_program(EXAMPLE)
        inputs = [3, 250]
        whole = list(trail(p, (3, 250)))
        seen = []
        for point, words in trail(p, inputs):
            seen.append((point, dict(words)))
            for name in list(words):
                words[name] = 77
            words["more"] = 5
            words.pop("a")
            inputs[0] = 9
        self.assertEqual(seen, whole)
        self.assertEqual(list(trail(p, (3, 250))), whole)

    def test_two_trails_at_once(self):
        p = read_program(EXAMPLE)
        pairs = list(zip(trail(p, (3, 250)), trail(p, (250, 3))))
        self.assertEqual([one for one, _ in pairs], list(trail(p, (3, 250)))[:len(pairs)])
        self.assertEqual([other for _, other in pairs], list(trail(p, (250, 3)))[:len(pairs)])


class ManyProgramsTest(unittest.TestCase):
    def test_against_a_reader_of_lines(self):
        for seed in range(300):
            program = made(seed)
            inputs = made_inputs(seed, program)
            for fuel in (0, 1, 5, 60):
                with self.subTest(seed=seed, fuel=fuel):
                    told, given, spent, seen = executed(program_text(program), inputs, fuel)
                    self.assertEqual(outcome(run(program, inputs, fuel)), (told, given, spent))
                    self.assertEqual(list(trail(program, inputs, fuel)), seen)

    def test_lists_throughout(self):
        blocks = [
            [["a"], [["b", "add", "a", 1], ["tell", "b"]], ["if", "b", 1, ["b"], 1, [0]]],
            [["c"], [], ["give", ["c"]]],
        ]
        self.assertEqual(outcome(run(Program(blocks), [4])), ((5,), (5,), 4))
        self.assertEqual(outcome(run(Program(blocks), [65535])), ((0,), (0,), 4))


if __name__ == "__main__":
    unittest.main()
