"""[5], [16], [17]: the text of a program, written and read."""

import re
import unittest

from registerways.errors import (
    AssignedTwice, BadText, NoBlock, NotAssigned, NotReached, RegisterError, WrongCount,
)
from registerways.programs import Program
from registerways.texts import program_text, read_program
from tests.samples import EXAMPLE, GRAPHS, graph

EXAMPLE_OF_16 = """block a b
go 1 a b
block x y
c = less x 100
if c 2 else 3
block
z = add x y
tell z
go 1 y z
block
give x"""

BLOCKS_OF_16 = (
    (("a", "b"), (), ("go", 1, ("a", "b"))),
    (("x", "y"), (("c", "less", "x", 100),), ("if", "c", 2, (), 3, ())),
    ((), (("z", "add", "x", "y"), ("tell", "z")), ("go", 1, ("y", "z"))),
    ((), (), ("give", ("x",))),
)

# Pairs of a text and the blocks of its program, with every kind of line.
PAIRS = (
    (EXAMPLE_OF_16, BLOCKS_OF_16),
    ("block\ngive", (((), (), ("give", ())),)),
    ("block a\ngive a 0 65535 a", ((("a",), (), ("give", ("a", 0, 65535, "a"))),)),
    ("block\ngo 1\nblock\ngive", (((), (), ("go", 1, ())), ((), (), ("give", ())))),
    ("block\ntell 7\ngo 1 5 6\nblock x abcdef\ntell abcdef\ngive x", (
        ((), (("tell", 7),), ("go", 1, (5, 6))), (("x", "abcdef"), (("tell", "abcdef"),), ("give", ("x",))),
    )),
    ("block p\nif p 1 else 1\nblock\nif 0 1 else 1", (
        (("p",), (), ("if", "p", 1, (), 1, ())), ((), (), ("if", 0, 1, (), 1, ())),
    )),
    ("block p\nif 1 1 p 2 else 2\nblock a b\ngive b\nblock\ngive", (
        (("p",), (), ("if", 1, 1, ("p", 2), 2, ())), (("a", "b"), (), ("give", ("b",))), ((), (), ("give", ())),
    )),
    ("block p\nif 1 2 else 1 p 2\nblock a b\ngive b\nblock\ngive", (
        (("p",), (), ("if", 1, 2, (), 1, ("p", 2))), (("a", "b"), (), ("give", ("b",))), ((), (), ("give", ())),
    )),
    ("block\na = add 1 2\nb = sub a 2\nc = mul 1 b\nd = less c c\ne = equal 0 65535\ngive e", (
        ((), (
            ("a", "add", 1, 2), ("b", "sub", "a", 2), ("c", "mul", 1, "b"), ("d", "less", "c", "c"),
            ("e", "equal", 0, 65535),
        ), ("give", ("e",))),
    )),
    ("block sub\nadd = add sub sub\nless = mul add 1\ntell less\ngive add", (
        (("sub",), (("add", "add", "sub", "sub"), ("less", "mul", "add", 1), ("tell", "less")), ("give", ("add",))),
    )),
)

NAME = r"(?!(?:block|else|give|go|if|tell)(?![a-z]))[a-z]{1,6}"
WORD = r"(?:[1-5][0-9]{4}|6[0-4][0-9]{3}|65[0-4][0-9]{2}|655[0-2][0-9]|6553[0-5]|[1-9][0-9]{0,3}|0)"
OPERAND = f"(?:{NAME}|{WORD})"
JUMP = f"(?:0|[1-9][0-9]{{0,3}})(?: {OPERAND})*"
BEGIN = re.compile(f"block(?: {NAME})*")
STEP = re.compile(f"tell {OPERAND}|{NAME} = (?:add|sub|mul|less|equal) {OPERAND} {OPERAND}")
END = re.compile(f"give(?: {OPERAND})*|go {JUMP}|if {OPERAND} {JUMP} else {JUMP}")


def first_bad_line(text):
    """The line that BadText names, found by patterns; None if there is none."""
    lines = text.split("\n")
    begin = True
    for number, line in enumerate(lines, start=1):
        if begin:
            if not BEGIN.fullmatch(line):
                return number
            begin = False
        elif END.fullmatch(line):
            begin = True
        elif not STEP.fullmatch(line):
            return number
    return None if begin else len(lines) + 1


class TextTest(unittest.TestCase):
    def assert_bad(self, line, text):
        with self.subTest(text=text):
            with self.assertRaises(BadText) as told:
                read_program(text)
            self.assertEqual(told.exception.line, line)

    def assert_good(self, text):
        with self.subTest(text=text):
            self.assertEqual(program_text(read_program(text)), text)


class WritingTest(unittest.TestCase):
    def test_example(self):
        self.assertEqual(program_text(Program(BLOCKS_OF_16)), EXAMPLE_OF_16)

    def test_every_kind_of_line(self):
        for text, blocks in PAIRS:
            with self.subTest(text=text):
                self.assertEqual(program_text(Program(blocks)), text)

    def test_lists(self):
        blocks = [[["a"], [["tell", "a"], ["b", "add", "a", 10]], ["give", ["b", 3]]]]
        self.assertEqual(program_text(Program(blocks)), "block a\ntell a\nb = add a 10\ngive b 3")

    def test_block_numbers(self):
        program = graph(*[(block + 1,) for block in range(12)], ())
        self.assertIn("\ngo 12\nblock\ngive", program_text(program))

    def test_by_keyword(self):
        self.assertEqual(program_text(program=Program(BLOCKS_OF_16)), EXAMPLE_OF_16)


class ReadingTest(TextTest):
    def test_every_kind_of_line(self):
        for text, blocks in PAIRS:
            with self.subTest(text=text):
                program = read_program(text)
                self.assertIsInstance(program, Program)
                self.assertEqual(program.blocks, blocks)

    def test_written_texts_are_read_back(self):
        programs = [Program(blocks) for _, blocks in PAIRS]
        programs.extend([graph(*targets_of_blocks) for targets_of_blocks in GRAPHS])
        for program in programs:
            text = program_text(program)
            with self.subTest(text=text):
                self.assertEqual(read_program(text).blocks, program.blocks)

    def test_by_keyword(self):
        self.assertEqual(read_program(text=EXAMPLE_OF_16).blocks, BLOCKS_OF_16)

    def test_text_of_two_thousand_characters(self):
        many = 170
        text = "\n".join([f"block\ngo {block + 1}" for block in range(many)]) + "\nblock\ngive"
        self.assert_good(text)


class BadLineTest(TextTest):
    def test_where_a_block_must_begin(self):
        for line in (
            "tell 1", "a = add 1 2", "give", "go 1", "if 1 1 else 1", "", " ", "blocks", "Block", "else", "block=",
            "block 1", "block 0", "block a 1", "block a,b", "block -", "block = add 1 2", "block block", "x", "1",
        ):
            self.assert_bad(1, line)
            self.assert_bad(1, line + "\nblock\ngive")
            self.assert_bad(3, "block\ngive\n" + line)
            self.assert_bad(4, "block\ntell 1\ngo 1\n" + line + "\nblock\ngive")

    def test_where_a_block_must_not_begin(self):
        for line in ("block", "block a", "block a b", "block = add 1 2"):
            self.assert_bad(2, "block\n" + line)
            self.assert_bad(3, "block\ntell 1\n" + line + "\ngive")

    def test_lines_in_a_block(self):
        for line in (
            "", " ", "x", "1", "else", "else 1", "tells 1", "Tell 1", "tell", "tell 1 2", "tell x y", "tell tell",
            "tell = add 1 2", "give = add 1 2", "go = add 1 2", "if = add 1 2", "else = add 1 2",
            "a = add 1", "a = add", "a =", "a", "a = add 1 2 3", "a add 1 2", "a == add 1 2", "a + add 1 2",
            "= add 1 2", "a = 1 add 2", "1 = add 1 2", "a = div 1 2", "a = Add 1 2", "a = addd 1 2", "a = ad 1 2",
            "a=add 1 2", "a = add 1,2", "a = add a = b", "a = add else 1", "a = add 1 if",
            "go", "go a", "go a 1", "go else", "go 1 else", "go 1 go", "go -1", "go 1 -1", "go 1.0", "go 1,2",
            "give else", "give 1 give", "give =", "give 1,2", "gives", "goes 1",
            "if", "if 1", "if 1 1", "if x 1 1", "if x 1 else", "if x else 1", "if else 1", "if 1 else 1",
            "if else 1 else 1", "if x a else 1", "if x 1 else a", "if x 1 else 1 else 1", "if x 1 1 els 1",
            "if x y 1 else 1", "if 1 else", "if x 1 else else 1", "if x else else 1", "if x 1 if 1 else 1",
            "if = 1 else 1", "if x 1 else 1 =", "if x 1 = else 1",
        ):
            self.assert_bad(2, "block x y\n" + line)
            self.assert_bad(2, "block x y\n" + line + "\ngive")
            self.assert_bad(6, "block x y\ngo 1\nblock\ntell x\nz = add 1 y\n" + line + "\nblock\nx")

    def test_spaces(self):
        good = ("block a b", "c = add a 1", "tell c", "if c 1 a 2 else 2", "block x y", "go 2", "block", "give a b")
        self.assert_good("\n".join(good))
        for at, line in enumerate(good):
            changed = [line + " ", " " + line, line + "  "]
            changed.extend([line[:place] + " " + line[place:] for place, sign in enumerate(line) if sign == " "])
            for bad in changed:
                self.assert_bad(at + 1, "\n".join([*good[:at], bad, *good[at + 1:]]))

    def test_other_white_space(self):
        for sign in ("\t", "\r", "\x0b", "\x0c", "\x1c", "\x85", "\xa0", "\u2028"):
            self.assert_bad(1, f"block{sign}a\ngive")
            self.assert_bad(1, f"block{sign}\ngive")
            self.assert_bad(2, f"block\ngive{sign}")
            self.assert_bad(2, f"block a\ngive{sign}a")
            self.assert_bad(2, f"block\ntell 1{sign}\ngive")

    def test_empty_lines(self):
        self.assert_bad(1, "")
        self.assert_bad(1, "\n")
        self.assert_bad(1, "\nblock\ngive")
        self.assert_bad(2, "block\n\ngive")
        self.assert_bad(3, "block\ngive\n")
        self.assert_bad(3, "block\ngive\n\n")
        self.assert_bad(2, "block\n")
        self.assert_bad(3, "block\ngo 1\n\nblock\ngive")

    def test_text_that_ends_without_an_end(self):
        self.assert_bad(2, "block")
        self.assert_bad(2, "block a b")
        self.assert_bad(3, "block\ntell 1")
        self.assert_bad(4, "block\na = add 1 2\ntell a")
        self.assert_bad(4, "block\ngive\nblock")
        self.assert_bad(5, "block\ngo 1\nblock x\ntell x")

    def test_first_of_several(self):
        self.assert_bad(2, "block\nx\nx\ngive\nblock\nx")
        self.assert_bad(4, "block\ntell 1\ngive\ngive\nx")
        self.assert_bad(2, "block\nx\ntell 1")


class IntegerTest(TextTest):
    def test_words(self):
        for word in ("0", "1", "9", "10", "99", "100", "9999", "10000", "59999", "65534", "65535"):
            self.assert_good(f"block\ntell {word}\na = add {word} 1\nb = sub 1 {word}\ngive {word}")
            self.assert_good(f"block\nif {word} 1 {word} else 1 {word}\nblock x\ngo 1 {word}")

    def test_bad_words(self):
        for word in (
            "00", "01", "007", "0000", "00000", "065535", "65536", "65540", "66000", "70000", "99999", "100000",
            "+1", "-1", "-0", "+0", "1_0", "1.0", "1e3", "0x1", "0b1", "1-", "--1", "1a", "a1", "9" * 1900, "9" * 5000,
            "\u0661", "\u00b2", "\uff11", "1\u0661", "\u00bd",
        ):
            self.assert_bad(2, f"block\ntell {word}\ngive")
            self.assert_bad(2, f"block\na = add {word} 1\ngive")
            self.assert_bad(2, f"block\na = add 1 {word}\ngive")
            self.assert_bad(2, f"block\ngive {word}")
            self.assert_bad(2, f"block\ngo 1 {word}\nblock x\ngive")
            self.assert_bad(2, f"block\nif {word} 1 else 1\nblock\ngive")
            self.assert_bad(2, f"block\nif 1 1 {word} else 1 1\nblock x\ngive")
            self.assert_bad(2, f"block\nif 1 1 1 else 1 {word}\nblock x\ngive")

    def test_block_numbers(self):
        # With at most four digits a line can stand; then there is no such block.
        for number in ("0", "2", "10", "999", "1000", "9999"):
            for end in (f"go {number}", f"if 1 1 else {number}", f"if 1 {number} else 1"):
                with self.subTest(end=end):
                    with self.assertRaises(NoBlock) as told:
                        read_program(f"block\n{end}\nblock\ngive")
                    self.assertEqual(told.exception.number, int(number))

    def test_bad_block_numbers(self):
        for number in (
            "00", "01", "001", "0001", "00001", "10000", "12345", "65535", "99999", "100000", "+1", "-1", "-0", "x",
            "1.0", "1x", "", "9" * 1900, "9" * 5000, "\u0661", "\u00b9",
        ):
            self.assert_bad(2, f"block x\ngo {number}\nblock\ngive")
            self.assert_bad(2, f"block x\nif 1 1 else {number}\nblock\ngive")
            self.assert_bad(2, f"block x\nif 1 {number} else 1\nblock\ngive")


class NameTest(TextTest):
    def text_with(self, name):
        return (
            f"block {name}\ntell {name}\na = add {name} {name}\nif {name} 1 {name} else 1 {name}\n"
            f"block b\ngive b {name}"
        )

    def test_names(self):
        for name in (
            "z", "q", "abcdef", "zzzzzz", "add", "sub", "mul", "less", "equal", "blocks", "bloc", "els", "elses",
            "gives", "giv", "g", "o", "goo", "i", "f", "iff", "tel", "tells", "word", "reg", "none", "ifelse",
        ):
            self.assert_good(self.text_with(name))
            self.assert_good(f"block\n{name} = add 1 2\ntell {name}\ngive {name}")

    def test_bad_names(self):
        for name in (
            "block", "else", "give", "go", "if", "tell", "abcdefg", "a" * 100, "A", "aB", "Ab", "a1", "1a", "a_", "_",
            "a-b", "a.", "", "\u00e4", "a\u00e9", "\u0430", "\u00df", "\uff41", "=", "a=",
        ):
            self.assert_bad(1, f"block {name}\ngive")
            self.assert_bad(1, f"block a {name}\ngive")
            self.assert_bad(1, f"block {name} a\ngive")
            self.assert_bad(2, f"block a\n{name} = add 1 2\ngive")
            self.assert_bad(2, f"block a\ntell {name}\ngive")
            self.assert_bad(2, f"block a\nb = add {name} 1\ngive")
            self.assert_bad(2, f"block a\nb = add 1 {name}\ngive")
            self.assert_bad(2, f"block a\ngive {name}")
            self.assert_bad(2, f"block a\ngo 1 {name}\nblock x\ngive")
            self.assert_bad(2, f"block a\nif {name} 1 else 1\nblock\ngive")


class ProgramErrorTest(TextTest):
    def assert_raised(self, error, attributes, text):
        with self.subTest(text=text):
            with self.assertRaises(RegisterError) as told:
                read_program(text)
            self.assertIs(type(told.exception), error)
            self.assertEqual(vars(told.exception), attributes)

    def test_each(self):
        self.assert_raised(AssignedTwice, {"name": "a"}, "block a\na = add 1 2\ngive")
        self.assert_raised(NoBlock, {"number": 1}, "block\ngo 1")
        self.assert_raised(NoBlock, {"number": 0}, "block\ngo 0")
        self.assert_raised(WrongCount, {"block": 1}, "block\ngo 1\nblock x\ngive")
        self.assert_raised(NotReached, {"block": 1}, "block\ngive\nblock\ngive")
        self.assert_raised(NotAssigned, {"name": "q"}, "block\ngive q")
        self.assert_raised(NotAssigned, {"name": "less"}, "block sub\nadd = add sub sub\nless = mul add less\ngive")

    def test_bad_text_comes_first(self):
        self.assert_bad(3, "block a a\na = add q 2\ngo 07")
        self.assert_bad(4, "block a a\ngo 7\nblock")
        self.assert_bad(3, "block\ngive q\nx")


class ChangedTextTest(TextTest):
    def test_one_character_changed(self):
        base = "block a b\nc = less a 100\nif c 1 a 6 else 2\nblock x y\ntell x\ngo 2\nblock\ngive b a"
        self.assert_good(base)
        texts = [EXAMPLE, EXAMPLE_OF_16]
        for at in range(len(base) + 1):
            for sign in " \n0159-=agiz":
                texts.append(base[:at] + sign + base[at:])
                texts.append(base[:at] + sign + base[at + 1:])
            texts.append(base[:at] + base[at + 1:])
            texts.append(base[:at])
            texts.append(base[at:])
        for text in texts:
            self.check(text)

    def test_one_word_changed(self):
        base = "block a b\nc = less a 100\nif c 1 a 6 else 2\nblock x y\ntell x\ngo 2\nblock\ngive b a"
        words = re.split("( |\n)", base)
        for at in range(0, len(words), 2):
            for word in (
                "", "block", "else", "give", "go", "if", "tell", "=", "add", "a", "0", "7 8", "else 1", "1 else",
            ):
                self.check("".join([*words[:at], word, *words[at + 1:]]))
                self.check("".join([*words[:at], word + " ", *words[at:]]))
            self.check("".join([*words[:at], *words[at + 2:]]))

    def check(self, text):
        line = first_bad_line(text)
        if line is not None:
            self.assert_bad(line, text)
            return
        with self.subTest(text=text):
            try:
                program = read_program(text)
            except RegisterError as error:
                self.assertNotIsInstance(error, BadText)
            else:
                self.assertEqual(program_text(program), text)


if __name__ == "__main__":
    unittest.main()
