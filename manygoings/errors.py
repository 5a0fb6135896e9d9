"""The refusals: each class stands straight under PileError."""


class PileError(ValueError):
    """Any refusal."""


class NoWorth(PileError):
    """What was handed in is no worth."""


class NoThing(PileError):
    """There is no such box or going-on."""


class NoPlace(PileError):
    """There is no such place."""


class NoName(PileError):
    """What was handed in is no name, or no peg has it."""


class NoSize(PileError):
    """A whole number is no size of pieces."""


class NoPicture(PileError):
    """What was handed in is no picture."""


class NoProgram(PileError):
    """What was handed in is no program."""


class NoSteps(PileError):
    """A run may not have so many steps."""


class NoText(PileError):
    """What was handed in writes nothing of the kind that is read."""


class NoRow(PileError):
    """What was handed in is no row for the desk."""
