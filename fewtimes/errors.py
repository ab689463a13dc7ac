"""The refusals: each one's class stands straight under TimesError."""


class TimesError(ValueError):
    """What every refusal of the program stands under."""


class BadStep(TimesError):
    """A program has a step that can't be done; step is its number."""

    def __init__(self, step):
        TimesError.__init__(self, f"step {step} can't be done")
        self.step = step


class NoFlip(TimesError):
    """A flip was asked for that the scheme hasn't got."""


class BadRow(TimesError):
    """A text has a row that can't stand there; row is its number."""

    def __init__(self, row):
        TimesError.__init__(self, f"row {row} can't stand there")
        self.row = row
