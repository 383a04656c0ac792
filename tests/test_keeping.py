"""[47] to [50]: a program and an allocation that are changed together."""

import random
import unittest

from registerways.allocations import Allocation, first_fit
from registerways.conflicts import conflict, fewest
from registerways.errors import (
    AssignedTwice, NoPlace, NoRegister, NotAssigned, NothingAgain, NothingBack, NoVariable, RegisterError, Taken,
    TooFew,
)
from registerways.keeping import Kept
from registerways.machines import Code
from registerways.programs import Program
from registerways.reassigning import reassigned
from registerways.running import run
from registerways.swaps import swapped
from registerways.texts import program_text, read_program
from tests import oracles
from tests.making import made, made_inputs, made_large
from tests.samples import EXAMPLE

EMPTY = "block\ntell 1\ngive"


def state(kept):
    """All that can be seen of what is kept."""
    return (kept.now.program.blocks, kept.now.size, kept.now.registers, kept.changed)


def shown(kept):
    """The registers of all variables."""
    return dict(zip(kept.now.program.order, kept.now.registers))


class Model:
    """What [47] to [50] say, followed word by word, with lines of text in the place of blocks."""

    def __init__(self, program, size):
        self.done = [(program_text(program), size, shown_of(first_fit(program, size)), 0)]
        self.undone = []

    def state(self):
        text, size, registers, changed = self.done[-1]
        program = read_program(text)
        return (program.blocks, size, tuple(registers[name] for name in program.order), changed)

    def change(self, text, size, registers, changed):
        self.done.append((text, size, registers, changed))
        self.undone = []

    def adapt(self, text, size):
        _, _, former, _ = self.done[-1]
        program = read_program(text)
        pairs = oracles.conflicts(program.blocks)
        registers = {}
        for name in program.order:
            got = {registers[other] for other in registers if (other, name) in pairs}
            own = former.get(name)
            if own is None or own >= size or own in got:
                own = min(set(range(50)) - got)
            if own >= size:
                raise TooFew(size)
            registers[name] = own
        changed = sum(1 for name in registers if name in former and former[name] != registers[name])
        self.change(text, size, registers, changed)

    def lines(self, block):
        """All lines, and the number of the line of a block."""
        lines = self.done[-1][0].split("\n")
        starts = [number for number, line in enumerate(lines) if line.split(" ")[0] == "block"]
        many = [end - start - 2 for start, end in zip(starts, starts[1:] + [len(lines)])]
        return lines, starts, many

    def put_in(self, block, at, instruction):
        lines, starts, many = self.lines(block)
        if block not in range(len(starts)) or at not in range(many[block] + 1):
            raise NoPlace(block, at)
        words = list(instruction) if instruction[0] == "tell" else [instruction[0], "=", *instruction[1:]]
        lines.insert(starts[block] + 1 + at, " ".join(map(str, words)))
        self.adapt("\n".join(lines), self.done[-1][1])

    def take_out(self, block, at):
        lines, starts, many = self.lines(block)
        if block not in range(len(starts)) or at not in range(many[block]):
            raise NoPlace(block, at)
        del lines[starts[block] + 1 + at]
        self.adapt("\n".join(lines), self.done[-1][1])

    def resize(self, size):
        self.adapt(self.done[-1][0], size)

    def rename(self, name, new):
        text, size, registers, _ = self.done[-1]
        if name not in registers:
            raise NoVariable(name)
        if new != name and new in registers:
            raise AssignedTwice(new)
        lines = [line.split(" ") for line in text.split("\n")]
        for words in lines:
            for at, word in enumerate(words):
                # The third word behind "=" is that of the operation.
                if word == name and not (at == 2 and words[1] == "="):
                    words[at] = new
        text = "\n".join(" ".join(words) for words in lines)
        self.change(text, size, {(new if x == name else x): reg for x, reg in registers.items()}, 0)

    def reassign(self, name, reg):
        self.follow(reassigned, name, reg)

    def swap(self, name, reg):
        self.follow(swapped, name, reg)

    def follow(self, call, name, reg):
        text, size, registers, _ = self.done[-1]
        program = read_program(text)
        after = shown_of(call(Allocation(program, size, [registers[x] for x in program.order]), name, reg))
        self.change(text, size, after, sum(after[x] != registers[x] for x in registers))

    def back(self):
        if len(self.done) == 1:
            raise NothingBack()
        self.undone.append(self.done.pop())

    def again(self):
        if not self.undone:
            raise NothingAgain()
        self.done.append(self.undone.pop())


def shown_of(allocation):
    return dict(zip(allocation.program.order, allocation.registers))


class KeptTest(unittest.TestCase):
    def setUp(self):
        self.k = Kept(read_program(EXAMPLE), 3)

    def refused(self, error, call, *arguments, kept=None):
        """The call raises the error, and changes nothing; returns the error."""
        kept = self.k if kept is None else kept
        before = state(kept)
        with self.assertRaises(error) as told:
            getattr(kept, call)(*arguments)
        self.assertIs(type(told.exception), error)
        self.assertIsInstance(told.exception, RegisterError)
        self.assertEqual(state(kept), before)
        return told.exception


class BeginningTest(KeptTest):
    def test_now_and_changed(self):
        p = read_program(EXAMPLE)
        k = Kept(p, 4)
        self.assertIsInstance(k.now, Allocation)
        self.assertEqual(k.now, first_fit(p, 4))
        self.assertEqual((k.now.size, k.now.program.blocks, k.changed), (4, p.blocks, 0))

    def test_too_few(self):
        p = read_program(EXAMPLE)
        for size in (0, 1, 2):
            with self.assertRaises(TooFew) as told:
                Kept(p, size)
            self.assertEqual(told.exception.size, size)

    def test_no_variables(self):
        k = Kept(read_program(EMPTY), 0)
        self.assertEqual((k.now.registers, k.now.size, k.changed), ((), 0, 0))

    def test_two_of_one_program(self):
        p = read_program(EXAMPLE)
        one, other = Kept(p, 3), Kept(p, 3)
        one.swap("a", 1)
        one.put_in(3, 0, ("tell", "x"))
        self.assertEqual(state(other), state(Kept(p, 3)))
        self.assertEqual(program_text(p), EXAMPLE)

    def test_no_method_returns_anything(self):
        k = self.k
        self.assertIsNone(k.put_in(3, 0, ("w", "add", "x", 1)))
        self.assertIsNone(k.rename("w", "v"))
        self.assertIsNone(k.take_out(3, 0))
        self.assertIsNone(k.resize(4))
        self.assertIsNone(k.reassign("a", 3))
        self.assertIsNone(k.swap("x", 2))
        self.assertIsNone(k.back())
        self.assertIsNone(k.again())

    def test_keywords(self):
        k = Kept(size=3, program=read_program(EXAMPLE))
        k.put_in(instruction=("w", "add", "x", 1), at=0, block=3)
        k.rename(new="v", name="w")
        k.take_out(at=0, block=3)
        k.resize(size=4)
        k.reassign(reg=3, name="a")
        k.swap(reg=2, name="x")
        self.assertEqual(shown(k), {"a": 3, "b": 1, "x": 2, "y": 1, "t": 0, "z": 0})


class PutInTest(KeptTest):
    def test_the_example(self):
        self.k.put_in(3, 0, ("w", "add", "x", 1))
        self.assertEqual(self.k.now["w"], 1)
        self.assertEqual(self.k.now.program.order, ("a", "b", "x", "y", "t", "z", "w"))
        self.assertEqual(self.k.changed, 0)

    def test_at_each_place(self):
        for block, many in enumerate((0, 1, 1, 0)):
            for at in range(many + 1):
                k = Kept(read_program(EXAMPLE), 4)
                k.put_in(block, at, ("tell", 7))
                instructions = k.now.program.blocks[block][1]
                self.assertEqual(len(instructions), many + 1)
                self.assertEqual(instructions[at], ("tell", 7))
                former = list(instructions)
                former.pop(at)
                self.assertEqual(tuple(former), read_program(EXAMPLE).blocks[block][1])
                self.assertEqual((k.changed, k.now.registers), (0, (0, 1, 0, 1, 2, 2)))

    def test_the_first_and_the_last_place(self):
        k = Kept(read_program("block a\ntell a\ntell 5\ngive a"), 2)
        k.put_in(0, 0, ("b", "add", "a", 1))
        k.put_in(0, 3, ("tell", "b"))
        self.assertEqual(program_text(k.now.program), "block a\nb = add a 1\ntell a\ntell 5\ntell b\ngive a")
        self.assertEqual(k.now.registers, (0, 1))

    def test_no_place(self):
        for block, at in (
            (-1, 0), (4, 0), (5, 9), (0, 1), (0, -1), (1, 2), (1, -1), (2, -2), (3, 1), (-4, 0),
            (10 ** 70, 0), (0, 10 ** 70),
        ):
            told = self.refused(NoPlace, "put_in", block, at, ("tell", 7))
            self.assertEqual((told.block, told.at), (block, at))

    def test_no_place_comes_first(self):
        self.refused(NoPlace, "put_in", 0, 2, ("a", "add", "q", 1))
        self.refused(NoPlace, "put_in", 9, 0, ("a", "add", "q", 1))

    def test_the_errors_of_the_program(self):
        self.assertEqual(self.refused(AssignedTwice, "put_in", 3, 0, ("a", "add", 0, 1)).name, "a")
        # Now the instruction in front is the first one that assigns t.
        self.assertEqual(self.refused(AssignedTwice, "put_in", 0, 0, ("t", "add", 0, 1)).name, "t")
        self.assertEqual(self.refused(NotAssigned, "put_in", 3, 0, ("tell", "z")).name, "z")
        self.assertEqual(self.refused(NotAssigned, "put_in", 1, 0, ("tell", "t")).name, "t")
        self.assertEqual(self.refused(NotAssigned, "put_in", 3, 0, ("w", "add", "w", "q")).name, "w")
        self.assertEqual(self.refused(AssignedTwice, "put_in", 3, 0, ("x", "add", "q", 1)).name, "x")

    def test_too_few(self):
        k = Kept(read_program("block a\ntell a\ngive"), 1)
        self.assertEqual(self.refused(TooFew, "put_in", 0, 0, ("b", "add", 1, 2), kept=k).size, 1)
        k.put_in(0, 1, ("b", "add", 1, 2))
        self.assertEqual(shown(k), {"a": 0, "b": 0})
        # a would be live beside b.
        self.assertEqual(self.refused(TooFew, "put_in", 0, 2, ("tell", "a"), kept=k).size, 1)
        none = Kept(read_program(EMPTY), 0)
        self.assertEqual(self.refused(TooFew, "put_in", 0, 0, ("b", "add", 1, 2), kept=none).size, 0)

    def test_variables_that_have_to_move(self):
        k = Kept(read_program("block\na = add 1 2\ntell a\nb = add 1 2\ntell b\ngive"), 2)
        self.assertEqual(shown(k), {"a": 0, "b": 0})
        k.put_in(0, 4, ("tell", "a"))
        self.assertEqual((shown(k), k.changed), ({"a": 0, "b": 1}, 1))
        k.put_in(0, 0, ("c", "add", 1, 1))
        self.assertEqual((shown(k), k.changed), ({"c": 0, "a": 0, "b": 1}, 0))

    def test_a_variable_in_front_may_take_a_register(self):
        k = Kept(read_program("block\na = add 1 2\ntell a\ngive"), 2)
        k.put_in(0, 0, ("c", "add", 1, 1))
        self.assertEqual(shown(k), {"c": 0, "a": 0})
        k.put_in(0, 2, ("tell", "c"))
        self.assertEqual((shown(k), k.changed), ({"c": 0, "a": 1}, 1))

    def test_an_instruction_as_a_list(self):
        for instruction in (["w", "add", "x", 1], ["tell", "x"]):
            k = Kept(read_program(EXAMPLE), 3)
            passed = list(instruction)
            k.put_in(3, 0, passed)
            self.assertEqual(passed, instruction)
            before = state(k)
            passed[-1] = 9
            passed.clear()
            self.assertEqual(state(k), before)
            self.assertEqual(k.now.program.blocks[3][1], (tuple(instruction),))
            k.back()
            k.again()
            self.assertEqual(state(k), before)


class TakeOutTest(KeptTest):
    def test_an_instruction(self):
        self.k.take_out(2, 0)
        self.assertEqual(program_text(self.k.now.program), EXAMPLE.replace("z = add x y\n", ""))
        self.assertEqual((shown(self.k), self.k.changed), ({"a": 0, "b": 1, "x": 0, "y": 1, "t": 2}, 0))

    def test_no_place(self):
        for block, at in ((0, 0), (3, 0), (1, 1), (2, 1), (1, -1), (2, -1), (-1, 0), (-3, 0), (4, 0), (10 ** 70, 0)):
            told = self.refused(NoPlace, "take_out", block, at)
            self.assertEqual((told.block, told.at), (block, at))

    def test_the_errors_of_the_program(self):
        self.assertEqual(self.refused(NotAssigned, "take_out", 1, 0).name, "t")

    def test_the_other_instructions_stay_as_they_are(self):
        text = "block\ntell 0\ntell 1\ntell 2\ntell 3\ngive"
        for at in range(4):
            k = Kept(read_program(text), 0)
            k.take_out(0, at)
            self.assertEqual(program_text(k.now.program), text.replace(f"tell {at}\n", ""))

    def test_registers_stay_although_lesser_ones_become_free(self):
        k = Kept(read_program("block\na = add 1 2\nb = add 1 2\ntell a\ntell b\ngive"), 2)
        self.assertEqual(shown(k), {"a": 0, "b": 1})
        k.take_out(0, 2)
        self.assertEqual((shown(k), k.changed), ({"a": 0, "b": 1}, 0))

    def test_a_name_that_comes_again(self):
        k = Kept(read_program("block a\nb = add 1 2\ntell a\ngive"), 3)
        k.reassign("b", 2)
        k.take_out(0, 0)
        self.assertEqual(shown(k), {"a": 0})
        k.put_in(0, 0, ("b", "add", 1, 2))
        # It has no register directly before this change, whatever it had earlier.
        self.assertEqual((shown(k), k.changed), ({"a": 0, "b": 1}, 0))


class ResizeTest(KeptTest):
    def test_more_registers(self):
        self.k.resize(40)
        self.assertEqual((self.k.now.size, self.k.now.registers, self.k.changed), (40, (0, 1, 0, 1, 2, 2), 0))

    def test_fewer_registers(self):
        k = Kept(read_program(EXAMPLE), 6)
        for name, reg in (("a", 5), ("x", 3), ("y", 4), ("t", 5)):
            k.reassign(name, reg)
        self.assertEqual(k.now.registers, (5, 1, 3, 4, 5, 2))
        k.resize(4)
        # a, y and t lose their registers; x keeps its own.
        self.assertEqual((k.now.size, k.now.registers, k.changed), (4, (0, 1, 3, 0, 1, 2), 3))
        k.resize(3)
        self.assertEqual((k.now.registers, k.changed), ((0, 1, 0, 1, 2, 2), 3))
        k.resize(5)
        self.assertEqual((k.now.size, k.now.registers, k.changed), (5, (0, 1, 0, 1, 2, 2), 0))

    def test_a_register_that_an_earlier_one_has_got(self):
        k = Kept(read_program("block a b\ngive a b"), 3)
        k.reassign("b", 2)
        k.reassign("a", 1)
        k.reassign("b", 0)
        k.reassign("a", 2)
        k.resize(2)
        # a gets the least register, which is that of b, which has to move.
        self.assertEqual((shown(k), k.changed), ({"a": 0, "b": 1}, 2))

    def test_too_few(self):
        for size in (0, 1, 2):
            self.assertEqual(self.refused(TooFew, "resize", size).size, size)
        self.k.resize(5)
        for size in (0, 2):
            self.assertEqual(self.refused(TooFew, "resize", size).size, size)

    def test_the_same_size_is_a_change_too(self):
        self.k.swap("a", 1)
        self.k.resize(3)
        self.assertEqual((self.k.now.registers, self.k.changed), ((1, 0, 0, 1, 2, 2), 0))
        self.k.back()
        self.assertEqual((self.k.now.registers, self.k.changed), ((1, 0, 0, 1, 2, 2), 2))

    def test_no_variables(self):
        k = Kept(read_program(EMPTY), 0)
        k.resize(7)
        self.assertEqual((k.now.size, k.now.registers), (7, ()))
        k.resize(0)
        self.assertEqual((k.now.size, k.now.registers), (0, ()))


class RenameTest(KeptTest):
    def test_each_variable(self):
        for name in "abxytz":
            k = Kept(read_program(EXAMPLE), 3)
            k.swap("x", 2)
            before = k.now.registers
            k.rename(name, "new")
            self.assertEqual(k.now.program.order, tuple("new" if x == name else x for x in "abxytz"))
            self.assertEqual((k.now.registers, k.changed), (before, 0))
            inputs = (3, 250)
            self.assertEqual(run(k.now.program, inputs).given, (250,))

    def test_everywhere(self):
        text = (
            "block q\ntell q\nr = add q q\nif q 1 q q else 1 r q\nblock s t\nu = mul q s\ngo 2\nblock\ngive q u q"
        )
        k = Kept(read_program(text), 4)
        k.rename("q", "w")
        self.assertEqual(program_text(k.now.program), text.replace("q", "w"))

    def test_to_its_own_name(self):
        before = state(self.k)
        self.k.rename("x", "x")
        self.assertEqual(state(self.k), before)
        self.k.back()
        self.refused(NothingBack, "back")

    def test_to_the_name_of_another_variable(self):
        for name in "abxytz":
            for new in "abxytz":
                if new != name:
                    self.assertEqual(self.refused(AssignedTwice, "rename", name, new).name, new)

    def test_no_variable(self):
        for name in ("c", "tell", "", "add"):
            for new in ("d", "a", "c"):
                self.assertEqual(self.refused(NoVariable, "rename", name, new).name, name)

    def test_to_the_word_of_an_operation(self):
        k = Kept(read_program("block a b\nc = add a b\nd = less c a\ntell d\ngive c"), 3)
        k.rename("a", "add")
        k.rename("c", "less")
        self.assertEqual(
            program_text(k.now.program), "block add b\nless = add add b\nd = less less add\ntell d\ngive less",
        )
        self.assertEqual(run(k.now.program, (3, 4)).given, (7,))
        k.rename("less", "sub")
        k.rename("add", "q")
        self.assertEqual(program_text(k.now.program), "block q b\nsub = add q b\nd = less sub q\ntell d\ngive sub")
        k.rename("d", "equal")
        self.assertEqual(
            program_text(k.now.program), "block q b\nsub = add q b\nequal = less sub q\ntell equal\ngive sub",
        )

    def test_a_name_that_was_free_is_free_again(self):
        self.k.rename("x", "w")
        self.k.rename("y", "x")
        self.assertEqual(self.k.now.program.order, ("a", "b", "w", "x", "t", "z"))
        self.assertEqual(self.k.now.registers, (0, 1, 0, 1, 2, 2))
        # The register that stays is the one that the name has now.
        self.k.resize(4)
        self.assertEqual((self.k.now.registers, self.k.changed), ((0, 1, 0, 1, 2, 2), 0))


class ReassignAndSwapTest(KeptTest):
    def test_reassign(self):
        self.k.reassign("a", 2)
        self.assertEqual((self.k.now, self.k.changed), (reassigned(Kept(read_program(EXAMPLE), 3).now, "a", 2), 1))
        self.k.reassign("a", 2)
        self.assertEqual((self.k.now["a"], self.k.changed), (2, 0))

    def test_swap(self):
        a = self.k.now
        self.k.swap("x", 2)
        self.assertEqual((self.k.now, self.k.changed), (swapped(a, "x", 2), 3))
        self.k.swap("x", 2)
        self.assertEqual((self.k.now, self.k.changed), (swapped(a, "x", 2), 0))
        self.k.swap("x", 0)
        self.assertEqual((self.k.now, self.k.changed), (a, 3))

    def test_errors(self):
        for call in ("reassign", "swap"):
            for reg in (0, 3, -1):
                self.assertEqual(self.refused(NoVariable, call, "q", reg).name, "q")
            for reg in (3, -1, 40):
                self.assertEqual(self.refused(NoRegister, call, "a", reg).reg, reg)
        self.assertEqual(self.refused(Taken, "reassign", "t", 0).other, "x")
        self.assertEqual(self.refused(Taken, "reassign", "x", 2).other, "t")


class BackTest(KeptTest):
    def test_nothing_back_and_nothing_again(self):
        self.refused(NothingBack, "back")
        self.refused(NothingAgain, "again")
        self.k.swap("a", 1)
        self.refused(NothingAgain, "again")
        self.k.back()
        self.refused(NothingBack, "back")
        self.k.again()
        self.refused(NothingAgain, "again")

    def change_all(self):
        """Make one change of each kind; returns the states before, between and behind them."""
        k = self.k
        states = [state(k)]
        for call, arguments in (
            ("put_in", (3, 0, ("w", "add", "x", "y"))), ("swap", ("x", 2)), ("reassign", ("a", 2)),
            ("rename", ("w", "v")), ("resize", (5,)), ("reassign", ("v", 4)), ("take_out", (2, 0)),
            ("resize", (3,)), ("swap", ("v", 0)),
        ):
            getattr(k, call)(*arguments)
            states.append(state(k))
        return states

    def test_back_and_again_to_the_ends(self):
        states = self.change_all()
        self.assertEqual(len(set(states)), len(states))
        for _ in range(2):
            for before in states[-2::-1]:
                self.k.back()
                self.assertEqual(state(self.k), before)
            self.refused(NothingBack, "back")
            for after in states[1:]:
                self.k.again()
                self.assertEqual(state(self.k), after)
            self.refused(NothingAgain, "again")

    def test_back_and_again_to_and_fro(self):
        states = self.change_all()
        at = len(states) - 1
        dice = random.Random(1)
        for _ in range(300):
            call = dice.choice(("back", "again"))
            if (call, at) == ("back", 0):
                self.refused(NothingBack, "back")
            elif (call, at) == ("again", len(states) - 1):
                self.refused(NothingAgain, "again")
            else:
                getattr(self.k, call)()
                at += 1 if call == "again" else -1
            self.assertEqual(state(self.k), states[at])

    def test_a_new_change_forgets_those_taken_back(self):
        for call, arguments in (
            ("put_in", (0, 0, ("tell", 1))), ("take_out", (3, 0)), ("rename", ("a", "a")), ("reassign", ("a", 0)),
            ("swap", ("a", 0)), ("resize", (3,)),
        ):
            k = self.k = Kept(read_program(EXAMPLE), 3)
            k.put_in(3, 0, ("tell", 7))
            k.swap("x", 2)
            k.swap("a", 1)
            k.back()
            k.back()
            before = state(k)
            getattr(k, call)(*arguments)
            after = state(k)
            self.refused(NothingAgain, "again")
            k.back()
            self.assertEqual(state(k), before)
            k.again()
            self.assertEqual(state(k), after)

    def test_a_refused_change_forgets_nothing(self):
        states = self.change_all()
        self.k.back()
        self.k.back()
        for call, arguments in (
            ("put_in", (9, 0, ("tell", 1))), ("put_in", (0, 0, ("tell", "q"))),
            ("take_out", (0, 7)), ("take_out", (1, 0)),
            ("rename", ("q", "p")), ("rename", ("a", "b")), ("reassign", ("q", 0)), ("reassign", ("x", 77)),
            ("swap", ("a", -1)), ("resize", (1,)),
        ):
            with self.assertRaises(RegisterError):
                getattr(self.k, call)(*arguments)
            self.assertEqual(state(self.k), states[-3])
        self.k.again()
        self.assertEqual(state(self.k), states[-2])
        self.k.again()
        self.assertEqual(state(self.k), states[-1])
        self.refused(NothingAgain, "again")

    def test_changes_that_leave_everything_as_it_is_count(self):
        k = self.k
        before = state(k)
        for call, arguments in (
            ("rename", ("a", "a")), ("reassign", ("a", 0)), ("swap", ("a", 0)), ("resize", (3,)),
        ):
            getattr(k, call)(*arguments)
            self.assertEqual(state(k), before)
        for _ in range(4):
            k.back()
            self.assertEqual(state(k), before)
        self.refused(NothingBack, "back")
        for _ in range(4):
            k.again()
        self.refused(NothingAgain, "again")

    def test_what_was_given_away_stays_as_it_was(self):
        a = self.k.now
        self.change_all()
        self.assertEqual((a.registers, a.size, program_text(a.program)), ((0, 1, 0, 1, 2, 2), 3, EXAMPLE))


class HistoryTest(unittest.TestCase):
    def drawn(self, dice, kept):
        """A call with its arguments, which may well be wrong."""
        order = list(kept.now.program.order) + ["q", "add"]
        blocks = kept.now.program.blocks
        call = dice.choice((
            "put_in", "put_in", "put_in", "take_out", "take_out", "resize", "rename", "reassign", "swap",
            "back", "again",
        ))
        if call in ("put_in", "take_out"):
            block = dice.randint(0, len(blocks)) if dice.random() < 0.95 else -1
            many = len(blocks[block][1]) if 0 <= block < len(blocks) else 3
            at = dice.randint(-1 if dice.random() < 0.1 else 0, many + (dice.random() < 0.1))
            if call == "take_out":
                return call, (block, at)
            operands = [dice.choice(order + [0, 7]) for _ in range(2)]
            name = dice.choice(["u", "v", "less", "w"] + order[:1])
            instruction = (name, dice.choice(("add", "less")), *operands)
            if dice.random() < 0.5:
                instruction = ("tell", operands[0])
            return call, (block, at, instruction)
        if call == "resize":
            return call, (dice.randint(max(0, kept.now.size - 2), kept.now.size + 2),)
        if call == "rename":
            return call, (dice.choice(order), dice.choice(order + ["u", "r", "sub"]))
        if call in ("reassign", "swap"):
            return call, (dice.choice(order), dice.randint(-1, kept.now.size))
        return call, ()

    def check_history(self, seed, program, size, many):
        dice = random.Random(seed)
        kept, model = Kept(program, size), Model(program, size)
        self.assertEqual(state(kept), model.state())
        raised = set()
        for _ in range(many):
            call, arguments = self.drawn(dice, kept)
            outcomes = []
            for each in (kept, model):
                try:
                    outcomes.append(getattr(each, call)(*arguments))
                except RegisterError as error:
                    outcomes.append((type(error), vars(error)))
                    raised.add(type(error))
            self.assertEqual(outcomes[0], outcomes[1])
            self.assertEqual(state(kept), model.state())
        return raised

    def test_histories(self):
        raised = set()
        for seed in range(60):
            program = made(seed, most_blocks=4)
            with self.subTest(seed=seed):
                raised |= self.check_history(seed, program, fewest(program)[0] + seed % 3, 60)
        self.assertLessEqual({
            NoPlace, AssignedTwice, NotAssigned, TooFew, NoVariable, NoRegister, Taken, NothingBack, NothingAgain,
        }, raised)

    def test_a_history_of_a_large_program(self):
        program = made_large(5)
        self.check_history(5, program, fewest(program)[0] + 1, 25)

    def test_what_is_kept_is_always_an_allocation_that_runs_like_its_program(self):
        for seed in range(20):
            program = made(seed, most_blocks=4)
            dice = random.Random(seed)
            kept = Kept(program, fewest(program)[0])
            for _ in range(25):
                call, arguments = self.drawn(dice, kept)
                try:
                    getattr(kept, call)(*arguments)
                except RegisterError:
                    continue
                a, p = kept.now, kept.now.program
                for at, x in enumerate(p.order):
                    for y in p.order[:at]:
                        self.assertFalse(conflict(p, x, y) and a[x] == a[y])
                inputs = made_inputs(seed, p)
                result, whole = Code(a)(inputs, 50), run(p, inputs, 50)
                self.assertEqual((result.told, result.given, result.spent), (whole.told, whole.given, whole.spent))
                self.assertEqual(Program(p.blocks).order, p.order)


if __name__ == "__main__":
    unittest.main()
