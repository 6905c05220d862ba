"""The errors of the package."""


class PeristyleError(ValueError):
    """What all errors of the package are."""


class BadText(PeristyleError):
    """A text is no query; at is the index of the sign with the mistake."""

    def __init__(self, at):
        self.at = at


class BadName(PeristyleError):
    """A name is unknown, taken or none; at is its place, or -1 outside of queries."""

    def __init__(self, at):
        self.at = at


class BadKind(PeristyleError):
    """A kind does not fit; at is the place, or -1 outside of queries."""

    def __init__(self, at):
        self.at = at


class BadForm(PeristyleError):
    """A thing has not the form that it must have."""


class BadKey(PeristyleError):
    """Two rows agree in a key, or a table is still needed."""


class NoSuch(PeristyleError):
    """There is no such table, version, row or view."""


class TooMuch(PeristyleError):
    """A limit of the document is exceeded."""
