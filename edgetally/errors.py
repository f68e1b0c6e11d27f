"""The refusals of the program, each with the word that it is answered by."""


class EdgeError(ValueError):
    """Any refusal."""

    def __init__(self, word, why):
        ValueError.__init__(self, why)
        self.word = word


class BadTable(EdgeError):
    """Rows that are no table's."""

    def __init__(self, why="these rows are no table's"):
        EdgeError.__init__(self, "table", why)


class BadSums(EdgeError):
    """Sums that no table can have, or that are not the same."""

    def __init__(self, why="these sums are no table's"):
        EdgeError.__init__(self, "sums", why)


class BadBounds(EdgeError):
    """Bounds of another shape, or with a pair that is none."""

    def __init__(self, why="these bounds are no table's"):
        EdgeError.__init__(self, "bounds", why)


class TooWide(EdgeError):
    """Row sums with more rests than a net may have."""

    def __init__(self, wide):
        EdgeError.__init__(self, "wide", f"a net of width {wide} is too wide")
        self.wide = wide


class Barred(EdgeError):
    """No table fits: some rows have more things than there is room for."""

    def __init__(self, over, into):
        EdgeError.__init__(self, "barred", f"rows {over} have too little room by columns {into}")
        self.over = list(over)
        self.into = list(into)


class BadRule(EdgeError):
    """A kind, a side, a rule or a deed that is none."""

    def __init__(self, why="there is no such rule"):
        EdgeError.__init__(self, "rule", why)


class BadCell(EdgeError):
    """A row, a column or a cell that is not there."""

    def __init__(self, why="there is no such cell"):
        EdgeError.__init__(self, "cell", why)


class BadNumber(EdgeError):
    """A number out of its bounds."""

    def __init__(self, why="this number is out of its bounds"):
        EdgeError.__init__(self, "number", why)


class NoTable(EdgeError):
    """Rows that are no table of the net."""

    def __init__(self, why="the net has no such table"):
        EdgeError.__init__(self, "none", why)


class BadLayers(EdgeError):
    """Too few or too many nets, or too many things in them."""

    def __init__(self, why="these nets are no layers"):
        EdgeError.__init__(self, "layers", why)


class BadName(EdgeError):
    """A text that names no table."""

    def __init__(self, why="this text is no name"):
        EdgeError.__init__(self, "name", why)


class Taken(EdgeError):
    """A name that a table of the book has."""

    def __init__(self, name):
        EdgeError.__init__(self, "taken", f"the name {name} is taken")
        self.name = name


class Full(EdgeError):
    """A book that keeps as many tables as it may."""

    def __init__(self, why="the book is full"):
        EdgeError.__init__(self, "full", why)


class Unknown(EdgeError):
    """A name that no table of the book has."""

    def __init__(self, name):
        EdgeError.__init__(self, "unknown", f"the name {name} is unknown")
        self.name = name


class Outside(EdgeError):
    """A count that breaks its cell's bounds."""

    def __init__(self, row, column):
        EdgeError.__init__(self, "outside", f"the count in row {row}, column {column} breaks its bounds")
        self.row = row
        self.column = column


class TooMany(EdgeError):
    """More things than a table may have."""

    def __init__(self, why="a table has no room for so many things"):
        EdgeError.__init__(self, "many", why)


class Nothing(EdgeError):
    """No step that could be undone or redone."""

    def __init__(self, why="there is no such step"):
        EdgeError.__init__(self, "nothing", why)


class BadPage(EdgeError):
    """A text that is no page of any book."""

    def __init__(self, why="this text is no page"):
        EdgeError.__init__(self, "page", why)
