"""The refusals: each is a CoverError, and none stands under another one."""


class CoverError(ValueError):
    """Any refusal."""


class NoText(CoverError):
    """What is no text of a net; row is the number of the first row that cannot stand there."""

    def __init__(self, row):
        super().__init__(f"row {row} cannot stand there")
        self.row = row


class NoDepth(CoverError):
    """A depth that no cover has; least is the least one that some cover has."""

    def __init__(self, least):
        super().__init__(f"the least depth is {least}")
        self.least = least


class TooMany(CoverError):
    """A net of too many gates."""


class NoMatch(CoverError):
    """Two nets that have not as many inputs, or not as many outs."""


class NoChange(CoverError):
    """What is no change of a net."""


class NoRow(CoverError):
    """What is no row that a desk takes."""
