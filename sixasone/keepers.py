"""A keeper of a web that is never worse than its floor."""

from sixasone.errors import Barred, Worse
from sixasone.orders import compare
from sixasone.webs import Web


def tree_for(floor, web):
    """A tree for a floor and a web; Worse if there is none."""
    verdict = compare(floor, web)
    if not verdict:
        raise Worse(verdict.way, verdict.cut) from Barred(verdict.cut)
    return verdict.tree


class KeeperTrial:
    """A block behind which all is as it was when it began, if an error leaves it."""

    def __init__(self, held):
        self.held = held
        self.kept_now = ()
        self.kept_edits = ()

    def __enter__(self):
        self.kept_now = self.held.now
        self.kept_edits = self.held.edits
        return self.held

    def __exit__(self, kind, value, trace):
        if kind is not None:
            self.held.now = self.kept_now
            self.held.edits = self.kept_edits


class Keeper:
    """Keeps a web, and refuses edits by which it could be worse than the floor.

    `now` is the floor, the web and a tree for them; `edits` has pairs of an edit and the web ahead of it.
    """

    def __init__(self, floor, web):
        self.now = (floor, web, tree_for(floor, web))
        self.edits = ()

    @property
    def web(self):
        """The web that is kept."""
        return self.now[1]

    @property
    def floor(self):
        """The web that the kept one is never worse than."""
        return self.now[0]

    @floor.setter
    def floor(self, value):
        self.now = (value, self.now[1], tree_for(value, self.now[1]))

    def set_floor(self, web):
        """Tells another floor; this is no edit."""
        self.floor = web

    @property
    def paper(self):
        """A tree for the floor and the web."""
        return self.now[2]

    @property
    def log(self):
        """The list of the edits that are not taken back."""
        return [edit for edit, _ in self.edits]

    def __len__(self):
        return len(self.edits)

    def become(self, web, edit):
        """Keeps another web from an edit on."""
        tree = tree_for(self.floor, web)
        self.edits = self.edits + ((edit, self.web),)
        self.now = (self.floor, web, tree)

    def drop(self, name):
        """Takes all places of a name out."""
        self.become(self.web - name, ("drop", name))

    def make_one(self, name):
        """Makes all places of a name sure."""
        self.become(self.web // name, ("make_one", name))

    def put(self, name, other):
        """Puts a web or a name in each place of a name."""
        self.become(self.web.put(name, other), ("put", name, str(other)))

    def beside(self, other):
        """Puts a web or a name beside the web."""
        self.become(Web.bunch(self.web, other), ("beside", str(other)))

    def behind(self, other):
        """Puts a web or a name behind the web."""
        self.become(Web.row(self.web, other), ("behind", str(other)))

    def undo(self):
        """Takes back the last edit; returns whether there was one."""
        if not self.edits:
            return False
        _, web = self.edits[-1]
        self.now = (self.floor, web, tree_for(self.floor, web))
        self.edits = self.edits[:-1]
        return True

    def trial(self):
        """For one block, behind which all is as it was when it began, if an error leaves it."""
        return KeeperTrial(self)

    def tried(self, ask):
        """What a function returns that is asked within such a block."""
        with self.trial() as held:
            return ask(held)
