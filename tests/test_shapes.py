"""[41], [42], and [3]: programs with given conflicts, and rings without a chord."""

import itertools
import random
import unittest

from registerways.allocations import first_fit, how_many
from registerways.conflicts import conflict, conflicts, earlier, fewest
from registerways.errors import AssignedTwice, Chordless, NoVariable, RegisterError
from registerways.flow import below
from registerways.machines import Code
from registerways.programs import Program
from registerways.reassigning import reassign_way
from registerways.running import run
from registerways.shapes import realized
from registerways.swaps import swap_way
from registerways.texts import program_text, read_program
from tests import oracles
from tests.making import made_conflicts, some_allocations

TWELVE = tuple("abcdefghijkl")


def ring_of(names):
    return tuple(zip(names, names[1:] + names[:1]))


def has_chordless_ring(names, pairs):
    """Whether some names make a ring without a chord, found by trying all sets of names."""
    both = set(pairs) | {(y, x) for x, y in pairs}
    for many in range(4, len(names) + 1):
        for some in itertools.combinations(names, many):
            if all(sum((x, y) in both for y in some) == 2 for x in some) and connected(some, both):
                return True
    return False


def connected(names, both):
    seen, waiting = set(), [names[0]]
    while waiting:
        name = waiting.pop()
        if name not in seen:
            seen.add(name)
            waiting.extend(other for other in names if (name, other) in both)
    return len(seen) == len(names)


class ShapeTest(unittest.TestCase):
    def check_program(self, names, pairs):
        """The program has exactly these variables and conflicts, and not too many blocks."""
        p = realized(names, pairs)
        self.assertIsInstance(p, Program)
        self.assertEqual(sorted(p.order), sorted(names))
        self.assertEqual(len(p), len(names))
        self.assertLessEqual(len(p.blocks), 2 * len(names) + 1)
        wanted = {frozenset(pair) for pair in pairs}
        self.assertEqual({frozenset(pair) for pair in oracles.conflicts(p.blocks)}, wanted)
        self.assertEqual({frozenset(pair) for pair in conflicts(p)}, wanted)
        self.assertEqual(len(conflicts(p)), len(wanted))
        for x, y in itertools.permutations(names, 2):
            self.assertIs(conflict(p, x, y), frozenset((x, y)) in wanted)
        return p

    def check_ring(self, names, pairs):
        """The error names a ring as in [41]."""
        with self.assertRaises(Chordless) as told:
            realized(names, pairs)
        self.assertIsInstance(told.exception, RegisterError)
        ring = told.exception.ring
        self.assertIsInstance(ring, tuple)
        self.assertGreaterEqual(len(ring), 4)
        self.assertEqual(len(set(ring)), len(ring))
        self.assertLessEqual(set(ring), set(names))
        wanted = {frozenset(pair) for pair in pairs}
        beside = {frozenset(pair) for pair in ring_of(ring)}
        for pair in itertools.combinations(ring, 2):
            self.assertIs(frozenset(pair) in wanted, frozenset(pair) in beside)
        return ring


class RealizedTest(ShapeTest):
    def test_no_names(self):
        p = self.check_program((), ())
        self.assertEqual((len(p.blocks), p.order, fewest(p)), (1, (), (0, (0, 0))))

    def test_one_name(self):
        for name in ("a", "abcdef", "add", "less"):
            p = self.check_program((name,), ())
            self.assertEqual((p.order, how_many(p, 3)), ((name,), 3))

    def test_two_names(self):
        self.check_program(("a", "b"), ())
        self.check_program(("a", "b"), (("a", "b"),))
        self.check_program(("a", "b"), (("b", "a"),))

    def test_twelve_names(self):
        self.check_program(TWELVE, ())
        self.check_program(TWELVE, tuple(itertools.combinations(TWELVE, 2)))
        self.check_program(TWELVE, tuple(zip(TWELVE, TWELVE[1:])))
        # Around one name, the first one, a middle one or the last one: many blocks below one.
        for middle in ("a", "f", "l"):
            self.check_program(TWELVE, tuple((middle, name) for name in TWELVE if name != middle))
        self.check_program(TWELVE, tuple((x, y) for x in "abc" for y in TWELVE if x < y))
        self.check_program(TWELVE, tuple(zip(TWELVE, TWELVE[1:])) + tuple(zip(TWELVE, TWELVE[2:])))

    def test_names_of_operations(self):
        self.check_program(("add", "sub", "mul", "less", "equal"), (("add", "sub"), ("sub", "mul"), ("less", "mul")))

    def test_all_small_sets_of_pairs(self):
        kinds = [0, 0]
        for many in range(6):
            names = TWELVE[:many]
            every = list(itertools.combinations(names, 2))
            for chosen in itertools.product((False, True), repeat=len(every)):
                pairs = tuple(pair for pair, some in zip(every, chosen) if some)
                with self.subTest(names=names, pairs=pairs):
                    if has_chordless_ring(names, pairs):
                        self.check_ring(names, pairs)
                        kinds[1] += 1
                    else:
                        self.check_program(names, pairs)
                        kinds[0] += 1
        # As many as the numbers of chordal graphs with numbered nodes: 1, 1, 2, 8, 61, 822.
        self.assertEqual(kinds, [1 + 1 + 2 + 8 + 61 + 822, 1 + 1 + 2 + 8 + 64 + 1024 - 895])

    def test_many_sets_of_pairs(self):
        for seed in range(150):
            names, pairs = made_conflicts(seed, 6 + seed % 7, 1 + seed % 6)
            with self.subTest(seed=seed):
                self.check_program(names, pairs)

    def test_more_names_than_promised(self):
        names, pairs = made_conflicts(3, 40, 6)
        p = realized(names, pairs)
        self.assertEqual({frozenset(pair) for pair in conflicts(p)}, {frozenset(pair) for pair in pairs})
        self.assertLessEqual(len(p.blocks), 81)

    def test_pairs_more_than_once_and_either_way_round(self):
        p = self.check_program(("a", "b", "c"), (("a", "b"), ("c", "b"), ("b", "a"), ("a", "b"), ("b", "c")))
        self.assertEqual([conflict(p, "a", "b"), conflict(p, "b", "c"), conflict(p, "a", "c")], [True, True, False])

    def test_the_partners_before_a_variable_conflict_with_one_another(self):
        for seed in range(60):
            p = realized(*made_conflicts(seed, 12, 1 + seed % 6))
            for name in p.order:
                before = earlier(p, name)
                for x, y in itertools.combinations(before, 2):
                    self.assertTrue(conflict(p, x, y))
                    self.assertTrue(conflict(p, y, x))

    def test_the_program_may_be_passed_on(self):
        for seed in range(40):
            p = realized(*made_conflicts(seed, 12, 1 + seed % 6))
            again = read_program(program_text(p))
            self.assertEqual(again.blocks, p.blocks)
            self.assertEqual(Program(p.blocks).order, p.order)
            self.assertEqual(len(below(p)), len(p.blocks))
            few, _ = fewest(p)
            found = some_allocations(seed, p, few + 1)
            swap_way(found[0], found[-1])
            reassign_way(found[0], found[-1])
            result, whole = Code(first_fit(p, few))(()), run(p, ())
            self.assertEqual((result.told, result.given, result.spent), (whole.told, whole.given, whole.spent))

    def test_all_blocks_end_in_bounds(self):
        p = realized(TWELVE, ())
        for parameters, instructions, end in p.blocks:
            self.assertEqual(parameters, ())
            self.assertLessEqual(len(instructions), 20)
            self.assertIn(end[0], ("give", "go", "if"))

    def test_lists(self):
        names, pairs = ["a", "b", "c"], [["a", "b"], ("c", "b")]
        p = realized(names, pairs)
        self.assertEqual((names, pairs), (["a", "b", "c"], [["a", "b"], ("c", "b")]))
        names.clear()
        pairs[0].clear()
        self.assertEqual({frozenset(pair) for pair in conflicts(p)}, {frozenset("ab"), frozenset("bc")})

    def test_keywords(self):
        p = realized(pairs=(("a", "b"),), names=("b", "a"))
        self.assertEqual(len(conflicts(p)), 1)


class RingTest(ShapeTest):
    def test_rings_alone(self):
        for many in range(4, 13):
            names = TWELVE[:many]
            self.assertEqual(set(self.check_ring(names, ring_of(names))), set(names))

    def test_three_names_make_no_such_ring(self):
        self.check_program(("a", "b", "c"), ring_of(("a", "b", "c")))

    def test_a_chord(self):
        self.check_program(TWELVE[:4], ring_of(TWELVE[:4]) + (("a", "c"),))
        ring = self.check_ring(TWELVE[:5], ring_of(TWELVE[:5]) + (("a", "c"),))
        self.assertEqual(set(ring), {"a", "c", "d", "e"})
        self.check_program(TWELVE[:5], ring_of(TWELVE[:5]) + (("a", "c"), ("d", "a")))
        # Both halves of a ring with one chord.
        self.check_ring(TWELVE[:8], ring_of(TWELVE[:8]) + (("a", "e"),))

    def test_other_names_beside_the_ring(self):
        for many in (4, 5, 6):
            ring = TWELVE[:many]
            others = TWELVE[many:]
            pairs = ring_of(ring) + tuple(zip(others, others[1:]))
            self.assertEqual(set(self.check_ring(TWELVE, pairs)), set(ring))
            self.assertEqual(set(self.check_ring(TWELVE[::-1], pairs[::-1])), set(ring))
            # Each of them hangs on one name of the ring, or on two that are beside one another.
            pairs = ring_of(ring) + tuple((other, ring[0]) for other in others)
            self.assertEqual(set(self.check_ring(TWELVE, pairs)), set(ring))
            pairs += tuple((other, ring[1]) for other in others)
            self.assertEqual(set(self.check_ring(TWELVE, pairs)), set(ring))

    def test_partners_of_the_whole_ring(self):
        for many in (4, 5, 6):
            ring = TWELVE[:many]
            for few in (1, 2, 3):
                others = TWELVE[many:many + few]
                beside = tuple((other, name) for other in others for name in ring)
                # They are partners of one another, so that they are in no ring.
                pairs = ring_of(ring) + beside + tuple(itertools.combinations(others, 2))
                self.assertEqual(set(self.check_ring(ring + others, pairs)), set(ring))
                self.assertEqual(set(self.check_ring(others + ring, pairs[::-1])), set(ring))
                self.check_ring(others + ring, ring_of(ring) + beside)

    def test_two_rings(self):
        pairs = ring_of(TWELVE[:4]) + ring_of(TWELVE[4:9]) + (("a", "e"),)
        self.assertIn(set(self.check_ring(TWELVE, pairs)), (set(TWELVE[:4]), set(TWELVE[4:9])))

    def test_sets_that_are_tied_crosswise(self):
        pairs = tuple((x, y) for x in "abc" for y in "def")
        self.check_ring(TWELVE[:6], pairs)
        self.check_ring(TWELVE[:8], tuple((x, y) for x in "abcd" for y in "efgh"))
        self.check_ring(TWELVE, tuple((x, y) for x, y in itertools.combinations(TWELVE, 2) if ord(y) - ord(x) != 6))

    def test_pairs_by_chance(self):
        for seed in range(300):
            dice = random.Random(seed)
            names = TWELVE[:dice.randint(5, 8)]
            share = dice.choice((0.3, 0.5, 0.7, 0.9))
            some = [pair for pair in itertools.combinations(names, 2) if dice.random() < share]
            pairs = [dice.choice(((x, y), (y, x))) for x, y in some]
            dice.shuffle(pairs)
            with self.subTest(seed=seed):
                if has_chordless_ring(names, pairs):
                    self.check_ring(names, pairs)
                else:
                    self.check_program(names, pairs)


class WrongTest(unittest.TestCase):
    def refused(self, error, names, pairs):
        with self.assertRaises(error) as told:
            realized(names, pairs)
        self.assertIsInstance(told.exception, RegisterError)
        return told.exception

    def test_a_name_twice(self):
        self.assertEqual(self.refused(AssignedTwice, ("a", "b", "a"), ()).name, "a")
        self.assertEqual(self.refused(AssignedTwice, ("a", "b", "b", "a"), ()).name, "b")
        self.assertEqual(self.refused(AssignedTwice, ["a", "b", "c", "c", "b"], [("a", "b")]).name, "c")
        self.assertEqual(self.refused(AssignedTwice, ("a",) * 12, ()).name, "a")

    def test_a_name_that_is_not_there(self):
        self.assertEqual(self.refused(NoVariable, ("a", "b"), (("a", "b"), ("c", "d"))).name, "c")
        self.assertEqual(self.refused(NoVariable, ("a", "b"), (("a", "d"), ("c", "b"))).name, "d")
        self.assertEqual(self.refused(NoVariable, ("a", "b"), (("x", "y"),)).name, "x")
        self.assertEqual(self.refused(NoVariable, ("a", "b"), [["b", "y"], ["x", "a"]]).name, "y")
        self.assertEqual(self.refused(NoVariable, (), (("a", "b"),)).name, "a")

    def test_several_errors_at_once(self):
        ring = ring_of(("a", "b", "c", "d"))
        self.assertEqual(self.refused(AssignedTwice, tuple("abcdc"), ring + (("x", "a"),)).name, "c")
        self.assertEqual(self.refused(AssignedTwice, tuple("abcda"), ring).name, "a")
        self.assertEqual(self.refused(AssignedTwice, ("a", "a"), (("b", "c"),)).name, "a")
        self.assertEqual(self.refused(NoVariable, tuple("abcd"), ring + (("x", "a"),)).name, "x")
        self.assertEqual(self.refused(NoVariable, tuple("abcd"), (("a", "x"),) + ring).name, "x")
        self.assertEqual(set(self.refused(Chordless, tuple("abcd"), ring).ring), set("abcd"))


if __name__ == "__main__":
    unittest.main()
