"""A desk that does what lines say."""

from sixasone.cuts import cut_list
from sixasone.errors import BadText, NoLine, NoName, Worse
from sixasone.idles import idle
from sixasone.keepers import Keeper
from sixasone.named import WORDS, measure
from sixasone.names import is_name
from sixasone.orders import alike, compare
from sixasone.texts import read_values, write_tree
from sixasone.values import Values
from sixasone.ways import way_list
from sixasone.webs import Web

# Behind its first word: what each line has. A text is all that stands behind.
FORMS = {
    "web": ("name", "text"), "show": ("web",), "ways": ("web",), "cuts": ("web",), "idle": ("web",),
    "at": ("values",), "tell": ("word", "web"), "order": ("web", "web"), "why": ("web", "web"), "keep": ("web", "web"),
    "drop": ("name",), "sure": ("name",), "put": ("name", "text"), "beside": ("text",), "behind": ("text",),
    "kept": (), "undo": (),
}
TEXTS = ("text", "values")
OF_THE_KEEPER = ("drop", "sure", "put", "beside", "behind", "kept", "undo")


def listed(names):
    """The text of a way or a cut."""
    return " ".join(names) or "."


def all_listed(rows):
    """The text of some ways or cuts."""
    return " / ".join([listed(row) for row in rows]) or "-"


def do_web(desk, name, web):
    """From now on the name is that of this web."""
    desk.webs = {**desk.webs, name: web}
    return "ok"


def do_show(desk, web):
    """The text of a web."""
    return str(web)


def do_ways(desk, web):
    """The ways of a web."""
    return all_listed(way_list(web))


def do_cuts(desk, web):
    """The cuts of a web."""
    return all_listed(cut_list(web))


def do_idle(desk, web):
    """The idle names of a web."""
    return " ".join(idle(web)) or "-"


def do_at(desk, values):
    """From now on names have these values."""
    desk.worths = values
    return "ok"


def do_tell(desk, asked, web):
    """What a measure tells."""
    return str(asked(web, desk.worths))


def do_order(desk, one, other):
    """Which of two webs is never worse than the other one."""
    if alike(one, other):
        return "alike"
    if one <= other:
        return "second"
    return "first" if other <= one else "neither"


def do_why(desk, one, other):
    """What shows whether other is never worse."""
    verdict = compare(one, other)
    if verdict:
        return write_tree(verdict.tree)
    return f"way {listed(verdict.way)} / cut {listed(verdict.cut)}"


def do_keep(desk, floor, web):
    """From now on there is a keeper of these webs."""
    desk.keeper = Keeper(floor, web)
    return "ok"


def do_drop(desk, name):
    """Takes a name out of the kept web."""
    desk.keeper.drop(name)
    return "ok"


def do_sure(desk, name):
    """Makes a name of the kept web sure."""
    desk.keeper.make_one(name)
    return "ok"


def do_put(desk, name, web):
    """Puts a web in each place of a name of the kept web."""
    desk.keeper.put(name, web)
    return "ok"


def do_beside(desk, web):
    """Puts a web beside the kept web."""
    desk.keeper.beside(web)
    return "ok"


def do_behind(desk, web):
    """Puts a web behind the kept web."""
    desk.keeper.behind(web)
    return "ok"


def do_kept(desk):
    """The text of the kept web."""
    return str(desk.keeper.web)


def do_undo(desk):
    """Takes back the last edit of the kept web."""
    return "ok" if desk.keeper.undo() else "nothing"


ACTIONS = {
    "web": do_web, "show": do_show, "ways": do_ways, "cuts": do_cuts, "idle": do_idle, "at": do_at, "tell": do_tell,
    "order": do_order, "why": do_why, "keep": do_keep, "drop": do_drop, "sure": do_sure, "put": do_put,
    "beside": do_beside, "behind": do_behind, "kept": do_kept, "undo": do_undo,
}


def words_of(line):
    """The first word of a line, and the words or texts that its form has behind it."""
    if not isinstance(line, str):
        raise NoLine()
    first, *behind = line.split(" ")
    if first not in FORMS:
        raise NoLine()
    many = len(FORMS[first])
    if many and FORMS[first][-1] in TEXTS:
        behind = behind[:many - 1] + [" ".join(behind[many - 1:])]
    if len(behind) != many:
        raise NoLine()
    return first, behind


def thing_of(form, word):
    """What a word or a text of a line stands for; NoLine if it has not this form."""
    try:
        if form == "text":
            return Web.read(word)
        if form == "values":
            return read_values(word)
    except BadText:
        raise NoLine()
    if form == "word" and word in WORDS:
        return measure(word)
    if form == "word" or not is_name(word):
        raise NoLine()
    return word


class DeskTrial:
    """A block behind which a desk is as it was when it began, if an error leaves it."""

    def __init__(self, desk):
        self.desk = desk
        self.kept_webs = {}
        self.kept_worths = None
        self.kept_keeper = None

    def __enter__(self):
        self.kept_webs = self.desk.webs
        self.kept_worths = self.desk.worths
        self.kept_keeper = self.desk.keeper
        return self.desk

    def __exit__(self, kind, value, trace):
        if kind is not None:
            self.desk.webs = self.kept_webs
            self.desk.worths = self.kept_worths
            self.desk.keeper = self.kept_keeper


class Desk:
    """Keeps webs by names, values, and perhaps a keeper."""

    def __init__(self):
        self.webs = {}
        self.worths = Values.two((), 1, 1)
        self.keeper = None

    def known_web(self, name):
        """The web with a name."""
        if name not in self.webs:
            raise NoName(name)
        return self.webs[name]

    def say(self, line):
        """Does what a line says, and returns the answer."""
        first, words = words_of(line)
        forms = FORMS[first]
        things = [thing_of(form, word) for form, word in zip(forms, words)]
        things = [self.known_web(thing) if form == "web" else thing for form, thing in zip(forms, things)]
        if first in OF_THE_KEEPER and self.keeper is None:
            raise NoName("")
        action = ACTIONS[first]
        try:
            return action(self, *things)
        except Worse as refused:
            return "worse: " + listed(refused.way)

    def __call__(self, line):
        return self.say(line)

    def run(self, *lines):
        """The answers to lines; if one raises an error, all is as it was ahead of the first one."""
        with DeskTrial(self):
            if self.keeper is None:
                return self.answers(lines)
            with self.keeper.trial():
                return self.answers(lines)

    def answers(self, lines):
        """The list of the answers to lines."""
        return [self.say(line) for line in lines]
