"""[38] to [40], and of [2] what it says of the fewest registers: which allocations reassignments connect."""

import functools
import unittest

from registerways.allocations import Allocation, allocation_at, each_allocation, first_fit, how_many
from registerways.conflicts import fewest
from registerways.errors import NotAkin, RegisterError, TooMany
from registerways.joining import Verdict, fixed, joined, reachable, shortest_way
from registerways.programs import Program
from registerways.reassigning import reassigned
from registerways.shapes import realized
from registerways.texts import read_program
from tests import oracles
from tests.making import made, made_large, some_allocations
from tests.samples import EXAMPLE

EMPTY = "block\ntell 1\ngive"
# Only a and b are held together at a full point of two registers; c and d come one after the other behind them.
ROW = "block\na = add 0 0\nb = add a 0\ntell a\ntell b\nc = add 0 0\ntell c\nd = add 0 0\ntell d\ngive"


def text_of_singles(beginning, many):
    """A program that begins with some inputs and then assigns so many variables that are not used."""
    return "\n".join([beginning] + [f"v{'abcdefghijkl'[at]} = add 0 0" for at in range(many)] + ["give"])


def between_two_full_sets():
    """A program of which three registers are needed at two places, and all its allocations with three."""
    pairs = ("ab", "bc", "ca", "de", "ef", "fd", "ax", "xy", "yd")
    p = realized(list("abcdefxy"), [tuple(pair) for pair in pairs])
    return p, list(each_allocation(p, 3))


@functools.lru_cache(maxsize=64)
def full_points(blocks, size):
    """The points at which so many variables are held, in ascending order, each with these variables."""
    held = [(point, oracles.held(blocks, point)) for point in oracles.points(blocks)]
    return [(point, names) for point, names in held if len(names) == size]


def distances(program, size, start):
    """How many reassignments lead from the allocation number start to each one, found by trying all allocations."""
    pairs = oracles.conflicts(program.blocks)
    order = program.order
    partners = [[at for at, y in enumerate(order) if (x, y) in pairs] for x in order]
    numbers = {each.registers: number for number, each in enumerate(each_allocation(program, size))}
    registers = list(numbers)
    found = {start: 0}
    level = [start]
    while level:
        following = []
        for number in level:
            own = registers[number]
            for at in range(len(order)):
                for reg in set(range(size)) - {own[at]} - {own[other] for other in partners[at]}:
                    target = numbers[own[:at] + (reg,) + own[at + 1:]]
                    if target not in found:
                        found[target] = found[number] + 1
                        following.append(target)
        level = following
    return found


def small_programs(most_allocations):
    """Programs and sizes for which there are allocations, but not too many of them."""
    for seed in range(150):
        program = made(seed, most_blocks=4, most_parameters=2, most_instructions=3)
        few, _ = fewest(program)
        for size in (few, few + 1):
            if how_many(program, size) <= most_allocations:
                yield seed, program, size


class CheckTest(unittest.TestCase):
    def check_way(self, way, one, other):
        """The way consists of reassignments that are changes, and leads from the first to the second one."""
        self.assertIsInstance(way, tuple)
        present = one
        for step in way:
            self.assertIsInstance(step, tuple)
            name, reg = step
            self.assertNotEqual(present[name], reg)
            present = reassigned(present, name, reg)
        self.assertEqual(present, other)


class FixedTest(unittest.TestCase):
    def test_the_example(self):
        p = read_program(EXAMPLE)
        self.assertEqual(fixed(first_fit(p, 3)), ("x", "y", "t", "z"))
        self.assertEqual(fixed(first_fit(p, 4)), ())

    def test_no_variables(self):
        for size in (0, 1, 40):
            self.assertEqual(fixed(first_fit(read_program(EMPTY), size)), ())

    def test_many_programs(self):
        for seed in range(120):
            program = made(seed)
            few, _ = fewest(program)
            held = [oracles.held(program.blocks, point) for point in oracles.points(program.blocks)]
            for size in (few, few + 1, 40):
                expected = {name for names in held if len(names) == size for name in names}
                for allocation in some_allocations(seed, program, size, many=1):
                    with self.subTest(seed=seed, size=size):
                        found = fixed(allocation)
                        self.assertIsInstance(found, tuple)
                        self.assertEqual(found, tuple(name for name in program.order if name in expected))

    def test_they_can_never_be_reassigned(self):
        for seed, program, size in small_programs(200):
            found = list(each_allocation(program, size))
            for start in {0, len(found) // 2}:
                a = found[start]
                for number in distances(program, size, start):
                    for name in fixed(a):
                        self.assertEqual(found[number][name], a[name])

    def test_keywords(self):
        self.assertEqual(fixed(allocation=first_fit(read_program(EXAMPLE), 3)), ("x", "y", "t", "z"))


class VerdictTest(CheckTest):
    def outcome(self, verdict):
        self.assertIsInstance(verdict, Verdict)
        self.assertIs(type(verdict.holds), bool)
        self.assertIs(bool(verdict), verdict.holds)
        return (verdict.holds, verdict.way, verdict.name, verdict.point, verdict.numbers)

    def test_more_registers_than_the_fewest(self):
        p = read_program(EXAMPLE)
        for size in (4, 5, 40):
            for one in some_allocations(1, p, size):
                for other in some_allocations(2, p, size):
                    verdict = joined(one, other)
                    self.assertEqual(self.outcome(verdict), (True, verdict.way, None, None, None))
                    self.check_way(verdict.way, one, other)
                    self.assertLessEqual(len(verdict.way), 4 * 6 * 6)

    def test_more_registers_than_the_fewest_and_more_than_500_allocations(self):
        program = made_large(1)
        found = some_allocations(1, program, 40)
        verdict = joined(found[0], found[-1])
        self.assertEqual(self.outcome(verdict), (True, verdict.way, None, None, None))
        self.check_way(verdict.way, found[0], found[-1])

    def test_a_fixed_variable_with_unlike_registers(self):
        p = read_program(EXAMPLE)
        verdict = joined(first_fit(p, 3), Allocation(p, 3, (1, 0, 2, 0, 1, 1)))
        self.assertEqual(self.outcome(verdict), (False, None, "x", (1, 1), None))
        a, b = Allocation(p, 3, (0, 1, 2, 1, 0, 0)), Allocation(p, 3, (0, 1, 1, 2, 0, 0))
        self.assertEqual(self.outcome(joined(a, b)), (False, None, "x", (1, 1), None))

    def test_the_point_is_the_first_one_at_which_this_variable_is_held(self):
        # a and b, then b and c, and at last d and e fill the two registers.
        p = read_program(
            "block\na = add 0 0\nb = add 0 0\ntell a\nc = add 0 0\ntell b\ntell c\n"
            "d = add 0 0\ne = add 0 0\ntell d\ngive e"
        )
        self.assertEqual(fixed(first_fit(p, 2)), ("a", "b", "c", "d", "e"))
        one = Allocation(p, 2, (0, 1, 0, 0, 1))
        self.assertEqual(self.outcome(joined(one, Allocation(p, 2, (0, 1, 0, 1, 0)))), (False, None, "d", (0, 8), None))
        self.assertEqual(self.outcome(joined(one, Allocation(p, 2, (1, 0, 1, 1, 0)))), (False, None, "a", (0, 2), None))

    def test_reassignments_lead_there(self):
        p = read_program(ROW)
        self.assertEqual((fewest(p), fixed(first_fit(p, 2))), ((2, (0, 2)), ("a", "b")))
        one, other = Allocation(p, 2, (0, 1, 0, 0)), Allocation(p, 2, (0, 1, 1, 1))
        verdict = joined(one, other)
        self.assertEqual(self.outcome(verdict), (True, verdict.way, None, None, None))
        self.check_way(verdict.way, one, other)
        self.assertEqual(len(verdict.way), 2)
        self.assertEqual(self.outcome(joined(one, one)), (True, (), None, None, None))

    def test_reassignments_do_not_lead_there(self):
        # x and y cannot change places beside the fixed a and d, which have the same register.
        p, found = between_two_full_sets()
        same = [each for each in found if each["a"] == each["d"]]
        one, others = same[0], [each for each in same if all(each[name] == same[0][name] for name in "abcdef")]
        self.assertEqual(len(others), 2)
        self.assertEqual(fixed(one), tuple(name for name in p.order if name in "abcdef"))
        self.assertEqual(self.outcome(joined(one, others[1])), (False, None, None, None, (one.rank,)))
        self.assertEqual(self.outcome(joined(one, one)), (True, (), None, None, None))
        self.assertIsNone(shortest_way(one, others[1]))
        self.assertEqual(reachable(others[1]), (others[1].rank,))

    def test_each_case_beside_full_sets(self):
        p, found = between_two_full_sets()
        cases = set()
        for start in range(0, len(found), 7):
            reached = distances(p, 3, start)
            for target, other in enumerate(found):
                cases.add(self.check_case(found[start], other, reached, target))
        self.assertEqual(cases, {"fixed", "way", "numbers"})

    def test_each_case_by_the_words_of_the_document(self):
        cases = set()
        for seed, program, size in small_programs(120):
            found = list(each_allocation(program, size))
            numbers = sorted({0, len(found) // 2})
            for start in numbers:
                reached = distances(program, size, start)
                for target, other in enumerate(found):
                    with self.subTest(seed=seed, size=size, start=start, target=target):
                        cases.add(self.check_case(found[start], other, reached, target))
        self.assertLessEqual({"spare", "fixed", "way"}, cases)

    def check_case(self, one, other, reached, target):
        program, size = one.program, one.size
        verdict = joined(one, other)
        if size > fewest(program)[0]:
            self.assertEqual(self.outcome(verdict), (True, verdict.way, None, None, None))
            self.check_way(verdict.way, one, other)
            return "spare"
        for name in program.order:
            for point, names in full_points(program.blocks, size):
                if name in names and one[name] != other[name]:
                    self.assertEqual(self.outcome(verdict), (False, None, name, point, None))
                    return "fixed"
        if target in reached:
            self.assertEqual(self.outcome(verdict), (True, verdict.way, None, None, None))
            self.assertEqual(len(verdict.way), reached[target])
            self.check_way(verdict.way, one, other)
            return "way"
        self.assertEqual(self.outcome(verdict), (False, None, None, None, tuple(sorted(reached))))
        return "numbers"

    def test_too_many(self):
        # 512 allocations of the least size, and 256 of them.
        p = read_program(text_of_singles("block a b", 8))
        self.assertEqual((fewest(p)[0], how_many(p, 2)), (2, 512))
        for one, other in ((0, 1), (0, 0), (3, 7)):
            with self.assertRaises(TooMany) as told:
                joined(allocation_at(p, 2, one), allocation_at(p, 2, other))
            self.assertEqual(told.exception.number, 512)
            self.assertIsInstance(told.exception, RegisterError)
        verdict = joined(allocation_at(p, 2, 0), allocation_at(p, 2, 511))
        self.assertEqual(self.outcome(verdict), (False, None, "a", (0, 0), None))
        self.assertTrue(joined(allocation_at(p, 3, 0), allocation_at(p, 3, how_many(p, 3) - 1)))
        q = read_program(text_of_singles("block a b", 7))
        self.assertEqual(how_many(q, 2), 256)
        verdict = joined(allocation_at(q, 2, 0), allocation_at(q, 2, 127))
        self.assertEqual(len(verdict.way), 7)
        self.check_way(verdict.way, allocation_at(q, 2, 0), allocation_at(q, 2, 127))

    def test_too_many_of_a_large_program(self):
        program = made_large(2)
        few, _ = fewest(program)
        a = first_fit(program, few)
        with self.assertRaises(TooMany) as told:
            joined(a, a)
        self.assertEqual(told.exception.number, how_many(program, few))

    def test_not_akin(self):
        p, q = read_program(EXAMPLE), read_program(EXAMPLE.replace("100", "101"))
        for one, other in (
            (first_fit(p, 3), first_fit(q, 3)), (first_fit(p, 4), first_fit(q, 4)), (first_fit(p, 3), first_fit(p, 4)),
            (first_fit(p, 4), first_fit(p, 3)), (first_fit(p, 3), first_fit(read_program(EMPTY), 3)),
        ):
            for call in (joined, shortest_way):
                with self.assertRaises(NotAkin) as told:
                    call(one, other)
                self.assertIsInstance(told.exception, RegisterError)

    def test_not_akin_comes_before_too_many(self):
        p = read_program(text_of_singles("block a b", 8))
        for call in (joined, shortest_way):
            with self.assertRaises(NotAkin):
                call(first_fit(p, 2), first_fit(p, 3))
            with self.assertRaises(NotAkin):
                call(first_fit(p, 2), first_fit(read_program(text_of_singles("block b a", 8)), 2))

    def test_no_variables(self):
        p = read_program(EMPTY)
        for size in (0, 1):
            self.assertEqual(self.outcome(joined(first_fit(p, size), first_fit(p, size))), (True, (), None, None, None))

    def test_programs_made_from_equal_blocks(self):
        p = read_program(ROW)
        q = Program([[list(part) for part in block] for block in p.blocks])
        self.assertEqual(len(joined(Allocation(p, 2, (0, 1, 0, 0)), Allocation(q, 2, (0, 1, 1, 1))).way), 2)
        self.assertEqual(len(shortest_way(Allocation(p, 2, (0, 1, 0, 0)), Allocation(q, 2, (0, 1, 1, 1)))), 2)

    def test_keywords(self):
        p = read_program(EXAMPLE)
        verdict = joined(other=Allocation(p, 3, (1, 0, 2, 0, 1, 1)), one=first_fit(p, 3))
        self.assertEqual(self.outcome(verdict), (False, None, "x", (1, 1), None))


class ReachableTest(CheckTest):
    def test_the_example(self):
        p = read_program(EXAMPLE)
        self.assertEqual(reachable(first_fit(p, 3)), (0, 6, 12, 18, 24, 30))

    def test_small_programs_whole(self):
        for seed, program, size in small_programs(120):
            for number, allocation in enumerate(each_allocation(program, size)):
                if number % 5 == 0:
                    with self.subTest(seed=seed, size=size, number=number):
                        found = reachable(allocation)
                        self.assertIsInstance(found, tuple)
                        self.assertEqual(found, tuple(sorted(distances(program, size, number))))

    def test_shortest_ways_of_small_programs(self):
        for seed, program, size in small_programs(60):
            found = list(each_allocation(program, size))
            for start in sorted({0, len(found) // 2, len(found) - 1}):
                reached = distances(program, size, start)
                for target, other in enumerate(found):
                    with self.subTest(seed=seed, size=size, start=start, target=target):
                        way = shortest_way(found[start], other)
                        if target not in reached:
                            self.assertIsNone(way)
                        else:
                            self.check_way(way, found[start], other)
                            self.assertEqual(len(way), reached[target])

    def test_all_of_a_spare_register(self):
        p = read_program("block a b c\ngive")
        self.assertEqual(reachable(first_fit(p, 3)), (0,))
        self.assertEqual(reachable(first_fit(p, 4)), tuple(range(24)))

    def test_a_way_longer_than_the_number_of_variables(self):
        p = read_program("block a b\ngive a b")
        way = shortest_way(Allocation(p, 3, (0, 1)), Allocation(p, 3, (1, 0)))
        self.assertEqual(len(way), 3)
        self.check_way(way, Allocation(p, 3, (0, 1)), Allocation(p, 3, (1, 0)))
        self.assertIsNone(shortest_way(Allocation(p, 2, (0, 1)), Allocation(p, 2, (1, 0))))

    def test_equal_ones(self):
        for text, size in ((EXAMPLE, 3), (EMPTY, 0), (EMPTY, 40), (ROW, 2)):
            a = first_fit(read_program(text), size)
            self.assertEqual(shortest_way(a, a), ())
            self.assertEqual(shortest_way(a, first_fit(read_program(text), size)), ())

    def test_500_allocations(self):
        p = read_program(text_of_singles("block a b", 2))
        self.assertEqual(how_many(p, 5), 500)
        self.assertEqual(reachable(first_fit(p, 5)), tuple(range(500)))
        one, other = first_fit(p, 5), allocation_at(p, 5, 499)
        way = shortest_way(one, other)
        self.check_way(way, one, other)
        self.assertEqual(len(way), distances(p, 5, 0)[499])

    def test_more_than_500_allocations(self):
        for text, size, number in (
            ("block a b\ngive", 23, 506), (text_of_singles("block a b", 8), 2, 512), ("block a b c\ngive", 9, 504),
            (text_of_singles("block a b", 2), 6, 1080),
        ):
            p = read_program(text)
            a, b = first_fit(p, size), allocation_at(p, size, number - 1)
            for call in (
                lambda: reachable(a), lambda: reachable(b), lambda: shortest_way(a, b), lambda: shortest_way(a, a),
            ):
                with self.subTest(text=text):
                    with self.assertRaises(TooMany) as told:
                        call()
                    self.assertEqual(told.exception.number, number)
                    self.assertIsInstance(told.exception, RegisterError)
        p = read_program("block a b\ngive")
        self.assertEqual(how_many(p, 22), 462)
        self.assertEqual(reachable(first_fit(p, 22)), tuple(range(462)))

    def test_numbers_of_many_digits(self):
        program = made_large(3)
        number = how_many(program, 40)
        with self.assertRaises(TooMany) as told:
            reachable(first_fit(program, 40))
        self.assertEqual(told.exception.number, number)
        self.assertGreater(number, 10 ** 50)

    def test_forty_variables_with_few_allocations(self):
        rows = [f"v{first}{second} = add a b\ntell c\ntell d" for first in "abcdef" for second in "abcdef"]
        p = read_program("\n".join(["block a b c d", *rows, "give a b c d"]))
        self.assertEqual((len(p), how_many(p, 5)), (40, 120))
        self.assertEqual(reachable(allocation_at(p, 5, 77)), (77,))
        self.assertIsNone(shortest_way(first_fit(p, 5), allocation_at(p, 5, 119)))

    def test_keywords(self):
        p = read_program(ROW)
        one, other = Allocation(p, 2, (0, 1, 0, 0)), Allocation(p, 2, (0, 1, 1, 1))
        self.assertEqual(reachable(allocation=one), reachable(one))
        self.assertEqual(shortest_way(other=other, one=one), shortest_way(one, other))


if __name__ == "__main__":
    unittest.main()
