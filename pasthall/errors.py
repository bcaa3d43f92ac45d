"""The refusals of the program, each straight under PastError."""


class PastError(ValueError):
    """What the program refuses."""


class BadRow(PastError):
    """What is handed in as a row, or would come as one, is none."""


class BadEdit(PastError):
    """What is handed in as an edit is none."""


class NoFit(PastError):
    """Things that are well formed by themselves don't fit one another."""


class BadTree(PastError):
    """What is handed in as a tree, or would come as one, is none."""


class BadChange(PastError):
    """What is handed in as a change is none."""


class BadWeb(PastError):
    """What is handed in as a web, or would come as one, is none."""


class NoVersion(PastError):
    """A number of no version, or no versions at all."""


class NoFile(PastError):
    """A path that a tree has not, or a place that a row has not."""


class Clash(PastError):
    """What can't be merged; `paths` are the paths that clash, rising."""

    def __init__(self, paths=None):
        PastError.__init__(self, "there is a clash")
        self.paths = [] if paths is None else sorted(set(paths))


class BadPaper(PastError):
    """What is handed in as a paper is none."""


class NoAsking(PastError):
    """There is nothing to ask, or too much."""


class BadText(PastError):
    """A text that is no packed history."""


class NoName(PastError):
    """A name that the store has not."""


class NameTaken(PastError):
    """A name that the store has already."""


class Nothing(PastError):
    """There is no state to go to."""
