"""Values of the names of links."""

from sixasone.errors import BadName, BadValue, NoValue
from sixasone.names import is_int, is_name
from sixasone.ratios import Ratio


def value_of(thing):
    """The value that any value stands for, or None."""
    if not is_int(thing) and not isinstance(thing, Ratio):
        return None
    number = Ratio.of(thing)
    return None if number.is_endless or number < 0 else number


class Trial:
    """A block behind which values are as they were when it began."""

    def __init__(self, held):
        self.held = held
        self.kept_told = {}
        self.kept_rest = None

    def __enter__(self):
        self.kept_told = dict(self.held.told)
        self.kept_rest = self.held.untold
        return self.held

    def __exit__(self, kind, value, trace):
        self.held.told = self.kept_told
        self.held.untold = self.kept_rest


class Values:
    """Values that are told for names, and perhaps one for all the rest."""

    def __init__(self, numbers=None):
        given = {} if numbers is None else numbers
        names = sorted(list(given), key=str)
        for name in names:
            if not is_name(name):
                raise BadName(name)
        for name in names:
            if value_of(given[name]) is None:
                raise BadValue(name)
        self.told = {name: value_of(given[name]) for name in names}
        self.untold = None

    @staticmethod
    def two(names, good, bad):
        """The value good for names, and bad for the rest."""
        for name in names:
            if not is_name(name):
                raise BadName(name)
        if value_of(good) is None:
            raise BadValue("good")
        if value_of(bad) is None:
            raise BadValue("bad")
        made = Values({name: good for name in names})
        made.set_rest(bad)
        return made

    @property
    def rest(self):
        """The value of all names that are not told, or None."""
        return self.untold

    @rest.setter
    def rest(self, value):
        if value is not None and value_of(value) is None:
            raise BadValue("rest")
        self.untold = value_of(value)

    def set_rest(self, number):
        """Tells the value of all names that are not told."""
        self.rest = number

    @property
    def names(self):
        """The ascending tuple of the names that are told."""
        return tuple(sorted([str(name) for name in self.told]))

    def copy(self):
        """Equal values of their own."""
        return self.changed(lambda number: number)

    def changed(self, change):
        """New values: what a function makes of each told one and of the rest."""
        made = Values({name: change(self.told[name]) for name in self.names})
        if self.untold is not None:
            made.set_rest(change(self.untold))
        return made

    def turned(self):
        """New values, each 1 less what it was."""
        for name in self.names:
            if self.told[name] > 1:
                raise BadValue(name)
        if self.untold is not None and self.untold > 1:
            raise BadValue("rest")
        return self.changed(lambda number: 1 - number)

    def over(self):
        """New values, each 1 over what it was."""
        return self.changed(lambda number: Ratio(1).over(number))

    def times(self, x):
        """New values, each x times as great."""
        factor = value_of(x)
        if factor is None:
            raise BadValue("times")
        return self.changed(lambda number: number * factor)

    def trial(self):
        """For one block, behind which all is told as it was when the block began."""
        return Trial(self)

    def tried(self, ask):
        """What a function returns that is asked within such a block."""
        with self.trial() as held:
            return ask(held)

    def __getitem__(self, name):
        found = self.told.get(name, self.untold) if is_name(name) else None
        if found is None:
            raise NoValue(name)
        return found

    def __setitem__(self, name, number):
        if not is_name(name):
            raise BadName(name)
        if value_of(number) is None:
            raise BadValue(name)
        self.told[name] = value_of(number)

    def __iter__(self):
        raise TypeError("values are asked by names")

    def __contains__(self, name):
        return is_name(name) and name in self.told

    def __len__(self):
        return len(self.told)

    def __eq__(self, other):
        return isinstance(other, Values) and self.told == other.told and self.untold == other.untold

    def __str__(self):
        items = [f"{name} {self.told[name]}" for name in self.names]
        if self.untold is not None:
            items.append(f"* {self.untold}")
        if not items:
            return "none"
        return ", ".join(items)
