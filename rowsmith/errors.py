"""The refusals: one class for each, all under RowsmithError, none under another one."""


class RowsmithError(ValueError):
    """Any refusal."""


class NoText(RowsmithError):
    """A text that writes no tree; at is the number of its first wrong sign."""

    def __init__(self, at):
        RowsmithError.__init__(self, f"no tree is written: wrong at sign {at}")
        self.at = at


class NoName(RowsmithError):
    """A name without a worth."""

    def __init__(self, name):
        RowsmithError.__init__(self, f"no worth for the name {name}")
        self.name = name


class NoRow(RowsmithError):
    """A text that writes no table; row is the number of its first wrong row."""

    def __init__(self, row):
        RowsmithError.__init__(self, f"no table is written: wrong at row {row}")
        self.row = row


class NotRight(RowsmithError):
    """Rows that can't be done; row is the number of the first such one."""

    def __init__(self, row):
        RowsmithError.__init__(self, f"can't be done: row {row}")
        self.row = row


class TooMany(RowsmithError):
    """More than a limit or a bound lets through; text says of what."""

    def __init__(self, text):
        RowsmithError.__init__(self, text)
        self.text = text


class NoExchange(RowsmithError):
    """An exchange that can't be done; text says which."""

    def __init__(self, text):
        RowsmithError.__init__(self, text)
        self.text = text


class NoLine(RowsmithError):
    """A row that the desk doesn't know, or can't answer yet; text says which."""

    def __init__(self, text):
        RowsmithError.__init__(self, text)
        self.text = text
