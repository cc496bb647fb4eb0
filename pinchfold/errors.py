"""The refusals: all of them stand straight under PinchError, none under another."""


class PinchError(ValueError):
    """Any refusal."""


class BadPlan(PinchError):
    """No plan: see [2]."""


class BadFaces(PinchError):
    """A number of faces that is not allowed there."""


class BadFace(PinchError):
    """No face of the plan."""


class BadPlace(PinchError):
    """No place of the plan."""


class BadWay(PinchError):
    """Neither even nor odd."""


class NoPinch(PinchError):
    """The stack is one leaf and cannot be opened."""


class BadRow(PinchError):
    """No row of 3 to 40 letters r and l that begins with r."""


class NoFold(PinchError):
    """No plan has the row."""


class TooLong(PinchError):
    """The row has too many letters for a list of all its plans."""


class BadLie(PinchError):
    """A third that is not 0, 1 or 2."""


class BadStep(PinchError):
    """No step of a road, or no side of a leaf."""


class BadNumber(PinchError):
    """A number that nothing there has."""


class BadName(PinchError):
    """No name of 1 to 8 letters a to z."""


class Taken(PinchError):
    """The name is that of another paper."""


class NoPaper(PinchError):
    """No paper has the name."""


class BadSlot(PinchError):
    """A slot that is not 0 to 5."""


class BadColour(PinchError):
    """None of the colours."""


class BadLetter(PinchError):
    """No letter a to z."""


class Unfolded(PinchError):
    """The paper is not folded."""


class Folded(PinchError):
    """The paper is folded already."""


class OtherRow(PinchError):
    """The plan's row, wanted, is not the one that the strip had."""

    def __init__(self, had, wanted):
        self.had = had
        self.wanted = wanted


class Full(PinchError):
    """The house has as many papers as it can keep."""


class BadDeed(PinchError):
    """No deed by its first text or its count of things."""


class NoBack(PinchError):
    """Nothing can be taken back."""


class NoForth(PinchError):
    """Nothing can be done again."""


class BadText(PinchError):
    """A text that is not so written, by the number of its first wrong line."""

    def __init__(self, at):
        self.at = at
