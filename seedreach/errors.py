"""What seedreach refuses with: one class for each kind of refusal."""


class ReachError(ValueError):
    """Any refusal."""


class BadRow(ReachError):
    """Letters, a row or a scale that is none."""


class BadSeed(ReachError):
    """A list of seeds that is none."""


class NoRow(ReachError):
    """A number under which no row lies."""


class NoPlace(ReachError):
    """A place that a row has not."""


class TooLow(ReachError):
    """The number told is not more than the bar, or there is no bar; bar is what bar tells."""

    def __init__(self, bar):
        super().__init__("what is told is not more than the bar, or there is none")
        self.bar = bar


class BadText(ReachError):
    """A text that no shelf is written as."""
