"""Sessions: lines of words that ask about trees and machines, answered by lines of words."""

from codepick.chooser import states
from codepick.endless import finite
from codepick.errors import BadLine, NoText
from codepick.needless import needless
from codepick.readers import Keeping
from codepick.texts import is_numeral, read_machine, tree_text, words_of

FIRST_MACHINE = ((0,), 1, ((0, 0, (), 1),), ())
DONE = "ok"


def undone(keeping):
    """Takes back the last deed."""
    keeping.undo()
    return DONE


def prices_told(keeping):
    """The prices of the last part."""
    return words_of(["-" if price is None else price for price in keeping.prices])


def tree_told(keeping):
    """The last part's tree."""
    return tree_text(keeping.machine[0], keeping.tree)


def code_told(keeping):
    """The words of code."""
    return words_of(keeping.code())


def states_told(keeping):
    """How many states the machine has."""
    return str(len(states(keeping.machine)))


def finite_told(keeping):
    """Whether the machine's states are finitely many; not the tree where they are not."""
    word, shown = finite(keeping.machine)
    return words_of([word, shown]) if word == "finite" else word


def needless_told(keeping):
    """The numbers of what no tree needs."""
    return words_of(needless(keeping.machine)) or "none"


# What is done with a reader for each line of one word.
ANSWERS = {
    "undo": undone,
    "prices": prices_told,
    "tree": tree_told,
    "code": code_told,
    "states": states_told,
    "finite": finite_told,
    "needless": needless_told,
}


def machine_in(words):
    """The machine of which the text, with " / " for its line feeds, is in a line."""
    if "\n" in words:
        raise BadLine("a line feed in a line")
    try:
        return read_machine(words.replace(" / ", "\n") + "\n")
    except NoText:
        raise BadLine("no text of a machine") from None


def operators_in(words):
    """The numbers of operators that are in a line."""
    numerals = words.split(" ")
    if not all([is_numeral(numeral) for numeral in numerals]):
        raise BadLine("no operators")
    return [int(numeral) for numeral in numerals]


class Session:
    """Answers lines, by what a Keeping has read."""

    def __init__(self):
        self.keeping = Keeping(FIRST_MACHINE)

    def say(self, line):
        """Does what a line says, and returns the text that answers it."""
        if not isinstance(line, str):
            raise BadLine("no text")
        if line in ANSWERS:
            answer = ANSWERS[line]
            return answer(self.keeping)
        word, space, words = line.partition(" ")
        if word == "machine":
            self.keeping = Keeping(machine_in(words))
        elif word == "feed":
            operators = operators_in(words)
            self.keeping.feed_all(*operators)
        else:
            raise BadLine("no such line")
        return DONE
