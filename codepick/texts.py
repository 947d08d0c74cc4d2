"""The texts of machines and trees, written and read."""

from codepick.errors import NoText
from codepick.machines import is_machine, need_machine
from codepick.trees import is_tree, need_arities, need_tree

MOST_DIGITS = 20
BETWEEN_NODES = " ; "


def is_numeral(word):
    """Whether a word is a number of at most 20 digits without leading zeros."""
    return word.isascii() and word.isdigit() and len(word) <= MOST_DIGITS and (word == "0" or word[0] != "0")


def words_of(values):
    """The values with one space between."""
    return " ".join([str(worth) for worth in values])


def instruction_text(instruction):
    """The line of an instruction."""
    form, operator, arguments, price = instruction
    return words_of([form, "<-", f"{operator}:", *arguments, "at", price])


def conversion_text(conversion):
    """The line of a conversion."""
    start, end, price = conversion
    return words_of([end, "<-", start, "at", price])


def machine_text(machine):
    """The text of a machine."""
    need_machine(machine)
    arities, forms, instructions, conversions = machine
    lines = [words_of(["forms", forms]), words_of(["operators", *arities])]
    lines.extend([instruction_text(instruction) for instruction in instructions])
    lines.extend([conversion_text(conversion) for conversion in conversions])
    return "".join([line + "\n" for line in lines])


def tree_text(arities, tree):
    """The text of a tree."""
    need_tree(arities, tree)
    return BETWEEN_NODES.join([words_of(node) for node in tree])


def numbers_in(line):
    """The numbers among the words of a line."""
    return [int(word) for word in line.replace(":", "").split(" ") if is_numeral(word)]


def instruction_read(line):
    """The instruction that a line may be the text of, or something that is none."""
    numbers = numbers_in(line)
    return (*numbers[:2], tuple(numbers[2:-1]), *numbers[-1:])


def conversion_read(line):
    """The conversion that a line may be the text of, or something that is none."""
    numbers = numbers_in(line)
    return (*numbers[1::-1], *numbers[2:])


def machine_read(text):
    """The machine that a text may be that of, or something that is none."""
    lines = text.split("\n")
    if len(lines) < 3:
        return None
    rows = lines[2:-1]
    return (
        tuple(numbers_in(lines[1])),
        sum(numbers_in(lines[0])),
        tuple([instruction_read(line) for line in rows if ":" in line]),
        tuple([conversion_read(line) for line in rows if ":" not in line]),
    )


def read_machine(text):
    """The machine that has exactly this text."""
    if isinstance(text, str):
        machine = machine_read(text)
        # Whatever was passed over in reading makes another text.
        if is_machine(machine) and machine_text(machine) == text:
            return machine
    raise NoText("no text of a machine")


def read_tree(arities, text):
    """The tree that has exactly this text."""
    need_arities(arities)
    if isinstance(text, str):
        tree = tuple([tuple(numbers_in(node)) for node in text.split(BETWEEN_NODES)])
        if is_tree(arities, tree) and tree_text(arities, tree) == text:
            return tree
    raise NoText("no text of a tree")
