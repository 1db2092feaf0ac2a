"""The errors that the program raises."""


class SetError(ValueError):
    """What is handed in is not of the form that is needed."""


class NoSource(SetError):
    """A thing is no source, no line of one, or no length of a page."""


class NoText(SetError):
    """A text can not be read back; at tells where, or is None."""

    def __init__(self, at):
        super().__init__(f"no text at {at}")
        self.at = at


class Over(RuntimeError):
    """A setter has ended and takes no more."""


class NoPage(IndexError):
    """There is no page, or no line, of such a number."""
