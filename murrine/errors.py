"""The refusals. Their words hold no number, as a number handed in may be of any size."""


class GlassError(ValueError):
    """Any refusal."""


class BadColour(GlassError):
    """There is no such colour."""


class NoFace(GlassError):
    """No picture in the store has this number."""


class TooDeep(GlassError):
    """The picture would be deeper than a picture may be."""


class BadDepth(GlassError):
    """The picture cannot be looked at at this depth."""


class NoCell(GlassError):
    """There is no such cell at this depth."""


class BadTurn(GlassError):
    """There is no such turning."""


class BadPicture(GlassError):
    """The rows are no small picture."""


class NoRod(GlassError):
    """There is no rod of this number, or no more."""


class BadThickness(GlassError):
    """No rod has this thickness."""


class BadLength(GlassError):
    """This length is not allowed here."""


class BadSteps(GlassError):
    """A rod is pulled by one step at least."""


class TooThin(GlassError):
    """The rod would be less thick than its face is deep."""


class TooThick(GlassError):
    """The rods are too thick to be bundled."""


class Twice(GlassError):
    """One rod stands where unlike rods must stand."""


class Unlike(GlassError):
    """The rods do not fit each other."""


class Short(GlassError):
    """The rods to be used hold too little glass."""


class NothingLeft(GlassError):
    """Nothing is left to be done or taken back."""


class BadDeed(GlassError):
    """The tuple is no deed."""


class BadLine(GlassError):
    """The line writes no deed."""


class BadPage(GlassError):
    """A line of the page writes no deed, or its deed is refused."""

    def __init__(self, at):
        GlassError.__init__(self, "a line of the page writes no deed, or its deed is refused")
        self.at = at
