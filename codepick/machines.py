"""What a machine is."""

from codepick.errors import NoMachine, NoNumber
from codepick.kinds import is_between

MOST_OPERATORS = 6
MOST_ARGUMENTS = 2
MOST_FORMS = 4
MOST_INSTRUCTIONS = 24
MOST_CONVERSIONS = 12
GREATEST_PRICE = 20


def is_arities(thing):
    """Whether thing tells of one to six operators how many arguments each has."""
    return (
        isinstance(thing, tuple)
        and 1 <= len(thing) <= MOST_OPERATORS
        and all([is_between(arity, 0, MOST_ARGUMENTS) for arity in thing])
    )


def is_operator(arities, thing):
    """Whether thing is the number of an operator."""
    return is_between(thing, 0, len(arities) - 1)


def is_form(forms, thing):
    """Whether thing is the number of one of so many forms."""
    return is_between(thing, 0, forms - 1)


def is_price(thing):
    """Whether thing may be the price of an instruction or a conversion."""
    return is_between(thing, 0, GREATEST_PRICE)


def is_instruction(arities, forms, thing):
    """Whether thing is an instruction for these operators and so many forms."""
    if not isinstance(thing, tuple) or len(thing) != 4:
        return False
    form, operator, arguments, price = thing
    return (
        is_form(forms, form)
        and is_operator(arities, operator)
        and isinstance(arguments, tuple)
        and len(arguments) == arities[operator]
        and all([is_form(forms, wanted) for wanted in arguments])
        and is_price(price)
    )


def is_conversion(forms, thing):
    """Whether thing is a conversion between two of so many forms."""
    if not isinstance(thing, tuple) or len(thing) != 3:
        return False
    start, end, price = thing
    return is_form(forms, start) and is_form(forms, end) and start != end and is_price(price)


def is_machine(thing):
    """Whether thing, any value, is a machine."""
    if not isinstance(thing, tuple) or len(thing) != 4:
        return False
    arities, forms, instructions, conversions = thing
    if not is_arities(arities) or not is_between(forms, 1, MOST_FORMS):
        return False
    return (
        isinstance(instructions, tuple)
        and len(instructions) <= MOST_INSTRUCTIONS
        and all([is_instruction(arities, forms, instruction) for instruction in instructions])
        and isinstance(conversions, tuple)
        and len(conversions) <= MOST_CONVERSIONS
        and all([is_conversion(forms, conversion) for conversion in conversions])
    )


def need_machine(machine):
    """Refuses what is no machine."""
    if not is_machine(machine):
        raise NoMachine("no machine")


def amount_of_rows(machine):
    """How many instructions and conversions there are together: they are numbered one behind the other."""
    return len(machine[2]) + len(machine[3])


def is_number(machine, thing):
    """Whether thing is the number of an instruction or a conversion."""
    return is_between(thing, 0, amount_of_rows(machine) - 1)


def need_number(machine, number):
    """Refuses what is no number of an instruction or a conversion."""
    if not is_number(machine, number):
        raise NoNumber("no number of an instruction or a conversion")
