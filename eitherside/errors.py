"""The errors of the package: one class for each kind of failure.

No message shows its field, because a field may be nested deeper than Python can write it out.
"""


class NoBook(ValueError):
    """Entries that make no book; the position is that of the first wrong one."""

    def __init__(self, position):
        super().__init__("not the entries of a book")
        self.position = position


class NoClass(KeyError):
    """A value that is no class of the book or table."""

    def __init__(self, name):
        super().__init__("not a class")
        self.name = name


class NoRow(ValueError):
    """A value that is no row."""

    def __init__(self, row):
        super().__init__("not a row")
        self.row = row


class NoTree(ValueError):
    """A value that is no tree."""

    def __init__(self, tree):
        super().__init__("not a tree")
        self.tree = tree


class NoPattern(ValueError):
    """A value that is no pattern."""

    def __init__(self, pattern):
        super().__init__("not a pattern")
        self.pattern = pattern


class NoOutcome(LookupError):
    """An outcome that no bracketing has."""

    def __init__(self, outcome):
        super().__init__("no bracketing has this outcome")
        self.outcome = outcome


class NoRank(IndexError):
    """A rank that no bracketing has."""

    def __init__(self, rank):
        super().__init__("no bracketing has this rank")
        self.rank = rank


class NoChange(ArithmeticError):
    """A value that is no change of the table."""

    def __init__(self, change):
        super().__init__("not a change of the table")
        self.change = change


class NoClaim(ValueError):
    """A value that is no claim."""

    def __init__(self, claim):
        super().__init__("not a claim")
        self.claim = claim


class NoText(ValueError):
    """A value that is no text of what is read; the position is that of the first wrong part."""

    def __init__(self, position):
        super().__init__("not such a text")
        self.position = position


class NoCommand(TypeError):
    """A value that is no command."""

    def __init__(self):
        super().__init__()


class NothingToUndo(RuntimeError):
    """The history has no call left that could be reverted."""

    def __init__(self):
        super().__init__()
