"""The errors of the package."""


class PickError(ValueError):
    """Whatever the package refuses."""


class NoMachine(PickError):
    """What was passed is no machine."""


class NoArities(PickError):
    """What was passed is no tuple of arities."""


class NoTree(PickError):
    """What was passed is no tree for the arities."""


class Unspelled(PickError):
    """What was passed spells no tree."""


class NoOperator(PickError):
    """The machine has no such operator."""


class NoPrices(PickError):
    """What was passed is no row of prices."""


class NoStates(PickError):
    """What was passed is no state, or not as many as are asked for."""


class NoForm(PickError):
    """The machine has no such form."""


class NoCover(PickError):
    """What was passed is no cover, or there is none."""


class NoNumber(PickError):
    """Nothing has such a number."""


class NoNumbers(PickError):
    """What was passed is no ascending tuple of numbers."""


class NoPrice(PickError):
    """What was passed is no price that may be asked about."""


class ManyForms(PickError):
    """The machine has more forms than can be answered for."""


class Endless(PickError):
    """The machine has infinitely many states."""


class OtherArities(PickError):
    """The machines do not have the same arities."""


class NoContext(PickError):
    """What was passed is no context for the arities."""


class NoNodes(PickError):
    """What was passed is no number of nodes that may be asked about."""


class NoArguments(PickError):
    """Fewer parts have been read than the operator has arguments."""


class NothingRead(PickError):
    """No part has been read."""


class NothingDone(PickError):
    """There is no deed to take back."""


class NoPlace(PickError):
    """No part has such a place."""


class NoText(PickError):
    """What was passed is not the text of anything."""


class BadLine(PickError):
    """What was passed is no line of a session."""


class TooMany(PickError):
    """There are more of something (amount) than are let (limit)."""

    def __init__(self, amount, limit):
        self.amount = amount
        self.limit = limit
