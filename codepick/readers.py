"""Readers: they read trees operator by operator, arguments first, and know the prices of what was read."""

from codepick.covers import first_cover
from codepick.errors import NoArguments, NoCover, NoOperator, NoPlace, NothingDone, NothingRead
from codepick.kinds import is_between
from codepick.machines import is_operator, need_machine
from codepick.prices import Rules, row_of_node, state_and_base


def need_fitting(arities, many, operators):
    """Refuses operators that cannot be fed one after another where so many parts have been read."""
    for operator in operators:
        if not is_operator(arities, operator):
            raise NoOperator("no operator of the machine")
        if arities[operator] > many:
            raise NoArguments("fewer parts than the operator has arguments")
        many += 1 - arities[operator]


def need_some(parts):
    """Refuses to tell of the last one of no parts."""
    if not parts:
        raise NothingRead("no part has been read")


def trees_of(arities, operators):
    """The trees of the parts that operators in postfix order make, with one node written for each operator."""
    nodes = []
    # For each part the places where its nodes begin and end: its operators stand side by side.
    spans = []
    for at, operator in enumerate(operators):
        first = len(spans) - arities[operator]
        start = spans[first][0] if arities[operator] else at
        nodes.append((operator, *[end for begin, end in spans[first:]]))
        del spans[first:]
        spans.append((start, at))
    return tuple([moved_back(nodes[start:end + 1], start) for start, end in spans])


def moved_back(nodes, shift):
    """The tree of nodes in front of which so many others are no longer written."""
    return tuple([(node[0], *[part - shift for part in node[1:]]) for node in nodes])


def last_tree(arities, operators):
    """The tree of the last part."""
    trees = trees_of(arities, operators)
    need_some(trees)
    return trees[-1]


def words_of_cover(machine, cover):
    """The texts of what a cover takes, in the order in which it is done."""
    # From behind, all parts of a node come before it, the last one first.
    parts = []
    for number, way in cover[::-1]:
        words = []
        for wanted in machine[2][number][2]:
            words.extend(parts.pop())
        words.append(f"i{number}")
        words.extend([f"c{conversion}" for conversion in way])
        parts.append(words)
    return tuple(parts[0])


def code_of(machine, operators):
    """The texts of the first cover of the last part."""
    cover = first_cover(machine, last_tree(machine[0], operators))
    if cover is None:
        raise NoCover("the last part has no cover")
    return words_of_cover(machine, cover)


class Reader:
    """Reads operators, and knows the prices of the parts.

    rows has the prices of each part. operators are those in all parts, taken has for each of
    them the rows of its arguments, and done for each deed how many operators it fed.
    """

    NAME = "Reader"

    def __init__(self, machine):
        need_machine(machine)
        self.given = machine
        self.rules = Rules(machine)
        self.operators = []
        self.rows = []
        self.taken = []
        self.done = []

    def feed(self, operator):
        """Puts an operator over the last parts."""
        self.read((operator,))

    def feed_all(self, *operators):
        """Feeds all of these as one deed, or none."""
        self.read(operators)

    def read(self, operators):
        """Reads operators as one deed, or refuses them all."""
        need_fitting(self.given[0], len(self.rows), operators)
        for operator in operators:
            first = len(self.rows) - self.given[0][operator]
            parts = self.rows[first:]
            del self.rows[first:]
            self.rows.append(row_of_node(self.rules, operator, parts))
            self.operators.append(operator)
            self.taken.append(parts)
        self.done.append(len(operators))

    def undo(self):
        """Takes back the last deed that has not been taken back."""
        if not self.done:
            raise NothingDone("no deed to take back")
        amount = self.done.pop()
        for step in range(amount):
            self.rows.pop()
            self.rows.extend(self.taken.pop())
            self.operators.pop()

    def trial(self, work):
        """Calls work with the reader, and returns what it returns; an exception takes back all that it did."""
        operators = list(self.operators)
        rows = list(self.rows)
        taken = list(self.taken)
        done = list(self.done)
        ended = None
        try:
            result = work(self)
            ended = True
        finally:
            if ended is None:
                self.operators, self.rows, self.taken, self.done = operators, rows, taken, done
        return result

    @property
    def machine(self):
        """The machine."""
        return self.given

    @property
    def height(self):
        """The number of parts."""
        return len(self.rows)

    @property
    def prices(self):
        """The prices of the last part."""
        need_some(self.rows)
        return self.rows[-1]

    @property
    def state(self):
        """The state of the last part."""
        need_some(self.rows)
        return state_and_base(self.rows[-1])[0]

    @property
    def deeds(self):
        """How many deeds can be taken back."""
        return len(self.done)

    def __getitem__(self, at):
        if not is_between(at, 0, len(self.rows) - 1):
            raise NoPlace("no place of a part")
        return self.rows[at]

    def __iter__(self):
        raise TypeError("readers are not walked over")

    def __len__(self):
        return len(self.operators)

    def __eq__(self, other):
        return (
            isinstance(other, Reader)
            and self.NAME == other.NAME
            and self.given == other.given
            and self.rows == other.rows
        )

    def __repr__(self):
        return f"{self.NAME}({len(self.rows)} parts)"


class Keeping(Reader):
    """A reader that tells the trees that it has read."""

    NAME = "Keeping"

    @property
    def tree(self):
        """Some writing of the last part."""
        return last_tree(self.given[0], self.operators)

    @property
    def trees(self):
        """The same writings of all parts."""
        return trees_of(self.given[0], self.operators)

    def code(self):
        """The instructions and conversions of the first cover of the last part, in the order in which they are done."""
        return code_of(self.given, self.operators)


class Counting(Reader):
    """A reader that counts the operators that were fed."""

    NAME = "Counting"

    def __init__(self, machine):
        super().__init__(machine)
        self.many = 0

    def read(self, operators):
        """Reads operators as one deed, or refuses them all, and counts what was not refused."""
        super().read(operators)
        self.many += len(operators)

    @property
    def fed(self):
        """How many operators were fed, also those that were taken back."""
        return self.many


class KeepingCounting(Keeping, Counting):
    """A reader that tells the trees that it has read, and counts the operators that were fed."""

    NAME = "KeepingCounting"

    @property
    def tree(self):
        """Some writing of the last part."""
        return last_tree(self.given[0], self.operators)

    @property
    def trees(self):
        """The same writings of all parts."""
        return trees_of(self.given[0], self.operators)

    def code(self):
        """The instructions and conversions of the first cover of the last part, in the order in which they are done."""
        return code_of(self.given, self.operators)

    @property
    def fed(self):
        """How many operators were fed, also those that were taken back."""
        return self.many
