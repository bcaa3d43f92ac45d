"""The store: a history and names that point at its versions, state by state."""

from pasthall.errors import NameTaken, NoName, Nothing
from pasthall.histories import History, copied_history
from pasthall.treemerge import merged_versions
from pasthall.webs import above


class Store:
    """Names are kept for each state, and versions for all of them together."""

    def __init__(self):
        self.past = History()
        self.named = [{}]
        self.origins = [None]
        self.now = 0

    def names(self):
        """The names, each with the version at which it points."""
        return dict(self.named[self.now])

    def version(self, name):
        """The version at which a name points."""
        named = self.named[self.now]
        if name not in named:
            raise NoName("a name that the store has not")
        return named[name]

    def history(self):
        """A history with the same versions."""
        return copied_history(self.past)

    def state(self):
        """The number of the store's state."""
        return self.now

    def came_of(self):
        """For each state the one of which it came; None for the first one."""
        return list(self.origins)

    def check_free(self, name):
        """Refuse a name that the store has."""
        if name in self.named[self.now]:
            raise NameTaken("a name that the store has already")

    def make_state(self, named):
        """Go on to a next state, with these names."""
        self.origins.append(self.now)
        self.named.append(named)
        self.now = len(self.named) - 1

    def point(self, name, version):
        """Go on to a state in which a name points at a version; told is the version."""
        named = self.names()
        named[name] = version
        self.make_state(named)
        return version

    def begin(self, name, tree):
        """Put a name, with a version without elders."""
        self.check_free(name)
        return self.point(name, self.past.put_version((), tree))

    def save(self, name, tree):
        """Lead a name on to a version made of the one at which it pointed."""
        elder = self.version(name)
        return self.point(name, self.past.put_version((elder,), tree))

    def fork(self, name, other):
        """Give another name the version of a name."""
        version = self.version(name)
        self.check_free(other)
        return self.point(other, version)

    def drop(self, name):
        """Take a name out; told is the version at which it pointed."""
        version = self.version(name)
        named = self.names()
        named.pop(name)
        self.make_state(named)
        return version

    def join(self, name, other):
        """Lead a name on to what it and another one have together."""
        own = self.version(name)
        theirs = self.version(other)
        web = self.past.web()
        if theirs in above(web, own):
            return own
        if own in above(web, theirs):
            return self.point(name, theirs)
        # Merged ahead of the version being put: a clash comes ahead of a version too many.
        tree = merged_versions(self.past, own, theirs)
        return self.point(name, self.past.put_version(tuple(sorted([own, theirs])), tree))

    def undo(self):
        """Go back to the state of which this one came; told is its number."""
        if self.now == 0:
            raise Nothing("the first state came of none")
        self.now = self.origins[self.now]
        return self.now

    def redo(self, number):
        """Go on to one of the states that came of this one, counted from 0; told is its number."""
        later = [state for state, origin in enumerate(self.origins) if origin == self.now]
        if number < 0 or number >= len(later):
            raise Nothing("no such state came of this one")
        self.now = later[number]
        return self.now
