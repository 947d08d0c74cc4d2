import re
import unittest

from codepick.errors import NoArities, NoMachine, NoText, NoTree
from codepick.machines import is_machine
from codepick.texts import machine_text, read_machine, read_tree, tree_text
from codepick.trees import is_tree
from samples import (NEAR, NEAR_TREE, SMALL, WIDE, asked_twice, chain, chance, doubled, machine_for, some_machine,
                     some_tree, spoiled, wrong_values)

NEAR_TEXT = """forms 2
operators 0 2
0 <- 0: at 1
1 <- 0: at 0
0 <- 1: 1 1 at 0
1 <- 1: 0 0 at 1
0 <- 1: 0 0 at 0
"""
WIDE_TEXT = """forms 4
operators 0 1 2 0 1 2
0 <- 0: at 20
3 <- 1: 2 at 0
1 <- 5: 3 0 at 7
0 <- 0: at 20
3 <- 0 at 20
2 <- 3 at 0
0 <- 1 at 5
3 <- 0 at 20
"""
NUMBER = "(0|[1-9][0-9]{0,19})"
INSTRUCTION = re.compile(rf"\A{NUMBER} <- {NUMBER}:((?: (?:0|[1-9][0-9]*))*) at {NUMBER}\Z")
CONVERSION = re.compile(rf"\A{NUMBER} <- {NUMBER} at {NUMBER}\Z")
# What may come into a text at any place.
SIGNS = [" ", "\n", "0", "1", "9", ":", "-", "<", "a", ";", "\t", "\r", "+", "_", "\u00b2", "\u0661", "\x0b", "\x1c", "\u2028"]


def machine_of(text):
    """What a text is the text of, read by patterns, or None."""
    if not text.endswith("\n"):
        return None
    lines = text[:-1].split("\n")
    if len(lines) < 2 or not re.fullmatch(rf"forms {NUMBER}", lines[0]):
        return None
    if not re.fullmatch(rf"operators(?: {NUMBER})+", lines[1]):
        return None
    rows = [INSTRUCTION.match(line) or CONVERSION.match(line) for line in lines[2:]]
    kinds = [row and len(row.groups()) for row in rows]
    if None in kinds or kinds != sorted(kinds, reverse=True):
        return None
    instructions = []
    for row in rows[:kinds.count(4)]:
        form, operator, arguments, price = row.groups()
        instructions.append((int(form), int(operator), tuple(map(int, arguments.split())), int(price)))
    conversions = [(int(row[2]), int(row[1]), int(row[3])) for row in rows[kinds.count(4):]]
    arities = tuple([int(word) for word in lines[1].split()[1:]])
    machine = arities, int(lines[0].split()[1]), tuple(instructions), tuple(conversions)
    return machine if is_machine(machine) else None


def tree_of(arities, text):
    """What a text is the text of, read by patterns, or None."""
    if not re.fullmatch(rf"{NUMBER}( {NUMBER})*( ; {NUMBER}( {NUMBER})*)*", text):
        return None
    tree = tuple([tuple(map(int, node.split(" "))) for node in text.split(" ; ")])
    return tree if is_tree(arities, tree) else None


def changed(text):
    """Many texts that differ in one place, or in their lines."""
    found = []
    for at in range(len(text) + 1):
        found += [text[:at] + sign + text[at:] for sign in SIGNS]
        found += [text[:at] + sign + text[at + 1:] for sign in SIGNS]
        found += [text[:at] + text[at + 1:], text[:at], text[at:], text[:at] + text[at:].replace(" ", "  ", 1)]
        found.append(text[:at] + text[at:at + 1] * 20 + text[at:])
    lines = text.split("\n")
    for at in range(len(lines)):
        for other in range(len(lines)):
            turned = list(lines)
            turned[at], turned[other] = turned[other], turned[at]
            found.append("\n".join(turned))
        found += ["\n".join(lines[:at] + lines[at + 1:]), "\n".join(lines[:at] + lines[at:at + 1] * 2 + lines[at + 1:])]
    return found


class Machines(unittest.TestCase):
    def both_ways(self, machine, text):
        self.assertEqual(asked_twice(self, machine_text, machine), text)
        self.assertEqual(repr(asked_twice(self, read_machine, text)), repr(machine))

    def test_examples(self):
        self.both_ways(NEAR, NEAR_TEXT)
        self.both_ways(WIDE, WIDE_TEXT)
        self.both_ways(SMALL, "forms 1\noperators 0\n0 <- 0: at 0\n")
        # The lines that the document tells.
        machine = (0, 2), 2, ((0, 1, (1, 1), 4), (0, 0, (), 1)), ()
        self.both_ways(machine, "forms 2\noperators 0 2\n0 <- 1: 1 1 at 4\n0 <- 0: at 1\n")
        self.assertEqual(machine_text(machine=SMALL), machine_text(SMALL))
        self.assertEqual(read_machine(text=NEAR_TEXT), NEAR)

    def test_without_instructions_or_conversions(self):
        self.both_ways(((0,), 1, (), ()), "forms 1\noperators 0\n")
        self.both_ways(((2, 2, 2, 2, 2, 2), 4, (), ()), "forms 4\noperators 2 2 2 2 2 2\n")
        self.both_ways(((1,), 2, (), ((0, 1, 20), (1, 0, 0))), "forms 2\noperators 1\n1 <- 0 at 20\n0 <- 1 at 0\n")
        self.both_ways(((1,), 2, ((1, 0, (1,), 10),), ()), "forms 2\noperators 1\n1 <- 0: 1 at 10\n")

    def test_the_form_that_is_led_to_comes_first(self):
        machine = (0,), 3, (), ((0, 1, 5), (1, 2, 6))
        self.both_ways(machine, "forms 3\noperators 0\n1 <- 0 at 5\n2 <- 1 at 6\n")

    def test_read_again(self):
        for seed in range(300):
            machine = some_machine(chance(seed))
            if seed % 3 == 0:
                machine = machine_for(chance(seed), (0, 1, 2, 0, 1, 2), 1 + seed // 3 % 4, 24, 12, 20)
            text = machine_text(machine)
            self.assertEqual(repr(read_machine(text)), repr(machine))
            self.assertEqual(machine_of(text), machine)

    def test_nothing_else_is_read(self):
        read = refused = 0
        for machine in (NEAR, SMALL, WIDE, ((1,), 2, (), ((0, 1, 20), (1, 0, 0))), ((2, 0), 1, (), ())):
            for text in changed(machine_text(machine)):
                expected = machine_of(text)
                if expected is None:
                    self.assertRaises(NoText, read_machine, text)
                    refused += 1
                else:
                    self.assertEqual(repr(read_machine(text)), repr(expected))
                    self.assertEqual(machine_text(read_machine(text)), text)
                    read += 1
        self.assertGreater(read, 100)
        self.assertGreater(refused, 5000)

    def test_texts_that_are_none(self):
        start = "forms 2\noperators 0 2\n"
        read_machine(start)
        for text in (
            "", "\n", "\n\n", "\n\n\n", " ", "forms 2\n", "operators 0 2\n", "forms 2\noperators 0 2", start + "\n",
            "\n" + start, " " + start, start[:-1] + " \n", "forms  2\noperators 0 2\n", "forms 2\noperators  0 2\n",
            "forms 2\n\noperators 0 2\n", "forms 2 \noperators 0 2\n", "forms 02\noperators 0 2\n",
            "forms 2\noperators 00 2\n", "forms 0\noperators 0\n", "forms 5\noperators 0\n", "forms 2\noperators 3\n",
            "forms 2\noperators\n", "forms 2\noperators \n", "forms\noperators 0\n", "forms \noperators 0\n",
            "forms 2 2\noperators 0\n", "forms 1 1\noperators 0\n", "forms 2\noperators 0 0 0 0 0 0 0\n",
            "operators 0 2\nforms 2\n", "Forms 2\noperators 0 2\n", "form 2\noperators 0 2\n", "forms -2\noperators 0\n",
            "forms 2\r\noperators 0 2\r\n", "forms 2 / operators 0 2", "forms 2 / operators 0 2\n",
            "forms " + "0" * 20 + "2\noperators 0\n", "forms +2\noperators 0\n", "forms 2.0\noperators 0\n",
            "forms \u0662\noperators 0\n", "forms \u00b2\noperators 0\n", NEAR_TREE, "forms 2\noperators 0: 2\n",
        ):
            self.assertRaises(NoText, read_machine, text)

    def test_lines_that_are_none(self):
        start = "forms 2\noperators 0 2\n"
        for line in (
            "0 <- 0: at 1", "1 <- 1: 0 1 at 20", "1 <- 0 at 0", "0 <- 1 at 20",
        ):
            self.assertEqual(machine_text(read_machine(start + line + "\n")), start + line + "\n")
        for line in (
            "", " ", "0", "0 <- 0", "0 <- 0:", "0 <- 0 :at 1", "0 <- 0 : at 1", "0 <- 0:at 1", "0 <- 0: 1", "0 <- 0: at",
            "0 <- 0: at 1 ", " 0 <- 0: at 1", "0  <- 0: at 1", "0 <-  0: at 1", "0 <- 0:  at 1", "0 <- 0: at  1",
            "0 <-0: at 1", "0<- 0: at 1", "0 <= 0: at 1", "0 -> 0: at 1", "0 <- 0: at 21", "0 <- 0: at 01", "00 <- 0: at 1",
            "0 <- 00: at 1", "2 <- 0: at 1", "0 <- 2: at 1", "0 <- 0: 0 at 1", "0 <- 1: 0 at 1", "0 <- 1: at 1",
            "0 <- 1: 0 0 0 at 1", "0 <- 1: 0 2 at 1", "0 <- 1: 0  0 at 1", "0 <- 1: 0 00 at 1", "0 <- 1: 0 -0 at 1",
            "0 <- 0: at -1", "0 <- 0: at " + "1" * 21, "0 <- 0: at " + "0" * 21, "0 <- 0: at 1 1", "0 <- 0: 1 at",
            "0 <- 0: AT 1", "0 <- 0: at one", "0 <- 0: at 1\n", "0 at 0 <- 1", "1 <- 1 at 0", "0 <- 2 at 0", "2 <- 0 at 0",
            "1 <- 0 at 21", "1 <- 0 at 00", "1 <- 0  at 0", "1 <- 0", "1 <- 0 at", "1 <- 0 at 0 ", "1 <- 0 0 at 0",
            "1 <- 0 at 0 0", "1 0 at 0", "1 <- 0 at " + "0" * 21, "0 <- 0: at 1 / 1 <- 0: at 0",
        ):
            self.assertRaises(NoText, read_machine, start + line + "\n")
            self.assertRaises(NoText, read_machine, start + line + "\n0 <- 0: at 1\n")
        # Instructions come ahead of conversions.
        self.assertRaises(NoText, read_machine, start + "1 <- 0 at 0\n0 <- 0: at 1\n")
        self.assertEqual(len(read_machine(start + "0 <- 0: at 1\n" * 24 + "1 <- 0 at 0\n" * 12)[2]), 24)
        self.assertRaises(NoText, read_machine, start + "0 <- 0: at 1\n" * 25)
        self.assertRaises(NoText, read_machine, start + "1 <- 0 at 0\n" * 13)

    def test_wrong_values(self):
        for wrong in wrong_values() + [None, NEAR, list(NEAR_TEXT), (NEAR_TEXT,), [NEAR_TEXT], {NEAR_TEXT: 0}, NoText()]:
            self.assertRaises(NoText, read_machine, wrong)
        for wrong in wrong_values() + [None, (), NEAR_TEXT] + spoiled(SMALL):
            self.assertRaises(NoMachine, machine_text, wrong)


class Trees(unittest.TestCase):
    def both_ways(self, arities, tree, text):
        self.assertEqual(asked_twice(self, tree_text, arities, tree), text)
        self.assertEqual(repr(asked_twice(self, read_tree, arities, text)), repr(tree))

    def test_examples(self):
        self.both_ways((0, 2), ((0,), (1, 0, 0)), "0 ; 1 0 0")
        self.both_ways((0, 2), NEAR_TREE, "0 ; 1 0 0 ; 1 1 0")
        self.both_ways((0, 2), ((0,),), "0")
        self.both_ways((1, 0, 2), ((1,), (0, 0), (2, 0, 1)), "1 ; 0 0 ; 2 0 1")
        self.assertEqual(tree_text(tree=((0,),), arities=(0,)), "0")
        self.assertEqual(read_tree(text="0", arities=(0,)), ((0,),))

    def test_needless_nodes(self):
        """They are written and read, too."""
        self.both_ways((0, 0), ((1,), (0,), (1,)), "1 ; 0 ; 1")
        self.both_ways((0, 1), ((0,), (1, 0), (0,)), "0 ; 1 0 ; 0")

    def test_more_than_100_nodes(self):
        for length in (100, 101, 250, 1001):
            tree = chain(1, length)
            text = " ; ".join(["0"] + [f"1 {at}" for at in range(length - 1)])
            self.both_ways((0, 1), tree, text)
            self.both_ways((0, 2), doubled(1, length), re.sub(r"1 ([0-9]+)", r"1 \1 \1", text))
        self.assertEqual(read_tree((0,), " ; ".join(["0"] * 500)), ((0,),) * 500)

    def test_read_again(self):
        for seed in range(300):
            dice = chance(seed)
            arities = (0, *[dice.randint(0, 2) for operator in range(seed % 6)])
            tree = some_tree(dice, arities, 30)
            text = tree_text(arities, tree)
            self.assertEqual(repr(read_tree(arities, text)), repr(tree))
            self.assertEqual(tree_of(arities, text), tree)
            self.assertNotIn("\n", text)

    def test_nothing_else_is_read(self):
        read = refused = 0
        for arities, tree in (((0, 2), NEAR_TREE), ((0, 1, 2, 0, 1, 2), ((0,), (1, 0), (5, 0, 1), (3,), (2, 2, 3))),
                              ((0,), ((0,),)), ((0, 1), chain(1, 12))):
            for text in changed(tree_text(arities, tree)):
                expected = tree_of(arities, text)
                if expected is None:
                    self.assertRaises(NoText, read_tree, arities, text)
                    refused += 1
                else:
                    self.assertEqual(repr(read_tree(arities, text)), repr(expected))
                    self.assertEqual(tree_text(arities, read_tree(arities, text)), text)
                    read += 1
        self.assertGreater(read, 100)
        self.assertGreater(refused, 2000)

    def test_texts_that_are_none(self):
        for text in (
            "", " ", ";", " ; ", "0 ;", "; 0", "0 ; ", " ; 0", "0 ; ; 0", "0 ;  ; 0", "0;1 0 0", "0 ;1 0 0", "0; 1 0 0",
            "0  ; 1 0 0", "0 ;  1 0 0", "0 ; 1  0 0", "0 ; 1 0 0 ", " 0 ; 1 0 0", "0 ; 1 0 0\n", "0\n; 1 0 0", "0 ; 1 0",
            "0 ; 1 0 0 0", "0 ; 1 0 1", "1 0 0", "0 0", "2", "0 ; 2", "00", "0 ; 1 0 00", "0 ; 01 0 0", "-0", "+0", "0.0",
            "0 ; 1 0 " + "0" * 21, "0" * 21, "1" * 21, "1" * 20, "0 ; 1 0 " + "9" * 20, "a", "0,", "(0,)", "0 ; 1 0 0 ;",
            "0 : 1 0 0", "0: ; 1 0 0", "0 ; 1 0: 0", "\u0660", "0 ; 1 0 \u0660", "0\u00a0; 1 0 0", "0 ; 1\t0 0", "0 / 1 0 0",
        ):
            self.assertRaises(NoText, read_tree, (0, 2), text)

    def test_wrong_values(self):
        for wrong in wrong_values() + [None, (), NEAR_TREE, ["0"], ("0",), {"0": 0}, 0, NoText()]:
            if wrong != "0":
                self.assertRaises(NoText, read_tree, (0, 2), wrong)
        for wrong in wrong_values() + [None, (), 0, [0, 2], (0, True), (3,), (0,) * 7, NEAR, "0"]:
            for text in ("0", "", None, 0):
                self.assertRaises(NoArities, read_tree, wrong, text)
            for tree in (((0,),), (), None):
                self.assertRaises(NoArities, tree_text, wrong, tree)
        for wrong in wrong_values() + [None, (), "0", ((1, 0, 0),), [(0,)], ((True,),), ((0,), (1, 0, False)), ((0, 0),)]:
            self.assertRaises(NoTree, tree_text, (0, 2), wrong)


if __name__ == "__main__":
    unittest.main()
