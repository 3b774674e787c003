"""The refusals of the package."""


class LogError(ValueError):
    """Any refusal."""


class BadLevel(LogError):
    """A text that no level has."""


class BadRow(LogError):
    """A row, or a tuple of rows, that tells nothing."""


class BadGate(LogError):
    """A text that is no gate's; `at` is the place where that shows."""

    def __init__(self, at):
        super().__init__(f"no gate is written so, at {at}")
        self.at = at


class BadForm(LogError):
    """A text that is no form's; `at` is the place where that shows."""

    def __init__(self, at):
        super().__init__(f"no form is written so, at {at}")
        self.at = at


class NoWriter(LogError):
    """A number that no writer has."""


class Falling(LogError):
    """A moment below one that was handed in ahead."""


class NoFile(LogError):
    """A name that no file has."""


class Stopped(LogError):
    """The disk has stopped."""
