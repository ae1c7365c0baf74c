"""The desk: what each line of its table does and answers."""

import random
import unittest

from drawn import HIGH, LOW, never_worse, plain_apart, web_pairs
from plain import plain_is_tree, plain_number
from samples import LETTERS, Case, counts, odd_values, plain_cuts, plain_walks, random_web, sample_webs
from sixasone.desk import Desk
from sixasone.errors import BadValue, NoLine, NoName, NoValue, TooMany
from sixasone.keepers import Keeper
from sixasone.named import WORDS
from sixasone.texts import read_tree, read_values
from sixasone.values import Values
from sixasone.webs import Web

BRIDGE = "[0-a-2 0-b-3 2-m-3 2-c-1 3-d-1]"
ROW = "(a & b & c & d & e & f & g & h & i & j & k & l & m & n)"


def desk_with(*lines):
    desk = Desk()
    desk.run("web low (a & (b | c))", "web high (b | (a & c))", *lines)
    return desk


def listed(names):
    return " ".join(names) if names else "."


def behind_edit(kept, word, name, web):
    """The web behind an edit."""
    if word in ("drop", "sure"):
        return kept.without(name) if word == "drop" else kept.sure(name)
    if word == "put":
        return kept.put(name, web)
    return Web.bunch(kept, web) if word == "beside" else Web.row(kept, web)


def do(keeper, word, name, web):
    """Asks a keeper for an edit."""
    told = {"drop": (name,), "sure": (name,), "put": (name, web)}.get(word, (web,))
    getattr(keeper, "make_one" if word == "sure" else word)(*told)


class WebLineTest(Case):
    def test_told_example(self):
        desk = Desk()
        self.same(desk.run("web low (a & (b | c))", "web high (b | (a & c))", "ways low", "order low high",
                           "at a 4, b 3, c 5", "tell flow low"), ["ok", "ok", "a b / a c", "second", "ok", "4"])
        self.same(desk.run("keep low high", "drop b", "sure a", "kept", "undo", "undo"),
                  ["ok", "worse: a b", "ok", "(b | c)", "ok", "nothing"])
        self.fails(NoLine, [], desk.say, "ways")

    def test_call_and_say(self):
        desk = Desk()
        self.same([desk("web w a"), desk.say("show w"), desk(line="show w"), desk.say(line="ways w")],
                  ["ok", "a", "a", "a"])
        self.same([desk.run(), desk.run("show w")], [[], ["a"]])

    def test_drawn_webs(self):
        desk = Desk()
        for web in sample_webs(40, 5):
            self.same(desk.say(f"web w {web}"), "ok")
            ways, cuts = counts(web, plain_walks(web)), counts(web, plain_cuts(web))
            used = {web.links[place][0] for walk in plain_walks(web) for place in walk}
            idle = [name for name in web.names if name not in used]
            self.same(desk.run("show w", "ways w", "cuts w", "idle w"),
                      [str(web), " / ".join(map(listed, ways)) or "-", " / ".join(map(listed, cuts)) or "-", " ".join(idle) or "-"])

    def test_open_and_shut(self):
        desk = Desk()
        desk.run("web always open", "web never shut", "web lone [2-a-3]")
        self.same([desk.run(f"show {name}", f"ways {name}", f"cuts {name}", f"idle {name}") for name in ("always", "never", "lone")],
                  [["open", ".", "-", "-"], ["shut", "-", ".", "-"], ["[2-a-3]", "-", ".", "a"]])

    def test_texts_are_all_that_stands_behind(self):
        desk = Desk()
        self.same(desk.run("web w (b & (a & c))", "show w", "web w [3-x-0 1-y-3]", "show w", "web web web", "show web"),
                  ["ok", "(b & a & c)", "ok", "[0-x-3 1-y-3]", "ok", "web"])

    def test_words_are_names(self):
        desk = Desk()
        self.same(desk.run("web flow (ease & web)", "show flow", "tell flow flow", "tell length flow", "web joined joined", "keep flow flow",
                           "sure ease", "drop web", "put web none", "order flow joined", "why joined flow", "ways flow"),
                  ["ok", "(ease & web)", "1", "2", "ok", "ok", "ok", "worse: ease web", "worse: ease web", "neither",
                   "way joined / cut ease", "ease web"])

    def test_order(self):
        desk = desk_with("web same ((c | b) & a)", "web other (d | e)", "web always open", "web never shut")
        self.same(desk.run("order low high", "order high low", "order low same", "order low low", "order low other",
                           "order always never", "order never always", "order never never"),
                  ["second", "first", "alike", "alike", "neither", "first", "second", "alike"])
        for one, other in web_pairs(80, 4):
            desk.run(f"web one {one}", f"web other {other}")
            first, second = never_worse(other, one), never_worse(one, other)
            wanted = "alike" if first and second else "first" if first else "second" if second else "neither"
            self.same(desk.say("order one other"), wanted)

    def test_why(self):
        desk = desk_with("web always open", "web never shut")
        self.same(desk.run("why high low", "why always low", "why low never", "why always never", "why never never", "why low always"),
                  ["way b / cut a", "way . / cut a", "way a b / cut .", "way . / cut .", "cut",
                   desk.say("why low always")])
        for one, other in web_pairs(100, 4):
            desk.run(f"web one {one}", f"web other {other}")
            answer = desk.say("why one other")
            if never_worse(one, other):
                self.assertTrue(plain_is_tree(one, other, read_tree(answer)))
            else:
                way, cut = plain_apart(one, other)
                self.same(answer, f"way {listed(way)} / cut {listed(cut)}")


class ValueLineTest(Case):
    def test_values_at_first(self):
        desk = Desk()
        desk.say(f"web w {BRIDGE}")
        self.same([desk.say(f"tell {word} w") for word in WORDS], ["1", "2", "1", "2", "1", "1"])

    def test_tell(self):
        chance = random.Random(191)
        desk = Desk()
        for web in sample_webs(30, 5):
            values = Values({name: chance.randrange(2) for name in web.names})
            values.rest = 1
            self.same(desk.run(f"web w {web}", f"at {values}"), ["ok", "ok"])
            self.same([desk.say(f"tell {word} w") for word in WORDS], [str(plain_number(word, web, values)) for word in WORDS])
        self.same(desk.run("web never shut", "web always open", "tell length never", "tell flow always", "at a 3/6, b 2/3",
                           "web w (a & b)", "tell chance w", "tell length w"),
                  ["ok", "ok", "endless", "endless", "ok", "ok", "1/3", "7/6"])

    def test_no_value_and_bad_value(self):
        desk = desk_with("at b 5")
        for word in WORDS:
            self.fails(NoValue, ["a"], desk.say, f"tell {word} low")
        desk.say("at none")
        self.fails(NoValue, ["a"], desk.say, "tell ease low")
        desk.say("at * 1, b 2, c 3/2")
        self.fails(BadValue, ["b"], desk.say, "tell chance low")
        self.same(desk.say("tell flow low"), "1")
        self.fails(BadValue, ["b"], desk.run, "at * 7, a 1", "tell chance high")
        self.same(desk.run("at * 0, b 1", "tell chance high"), ["ok", "1"])


class KeeperLineTest(Case):
    def test_each_answer(self):
        desk = desk_with("keep low high")
        self.same(desk.run("kept", "beside d", "kept", "behind (a | b)", "put c (x | y)", "kept", "undo", "undo", "undo", "undo"),
                  ["(b | (a & c))", "ok", "(b | (a & c) | d)", "ok", "worse: a c", "((b | (a & c) | d) & (a | b))",
                   "ok", "ok", "nothing", "nothing"])
        self.same(desk.run("drop a", "drop b", "drop c", "sure c", "kept", "put a (a | z)", "kept"),
                  ["worse: a c", "worse: a b", "worse: a c", "ok", "(b | a)", "ok", "(b | a | z)"])
        self.same(desk.run("web always open", "keep always always", "behind a", "beside shut", "undo"),
                  ["ok", "ok", "worse: .", "ok", "ok"])

    def test_refused_keepers(self):
        desk = desk_with()
        self.same(desk.say("keep high low"), "worse: b")
        self.fails(NoName, [""], desk.say, "kept")
        desk.run("keep low high", "sure a")
        self.same(desk.run("keep high low", "kept", "undo", "kept"), ["worse: b", "(b | c)", "ok", "(b | (a & c))"])
        self.same(desk.run("web always open", "web never shut", "keep always never", "keep never always", "kept"),
                  ["ok", "ok", "worse: .", "ok", "open"])

    def test_the_keeper_keeps_its_webs(self):
        desk = desk_with("keep low high", "web low shut", "web high shut")
        self.same(desk.run("kept", "drop b", "show high", "sure c", "show high", "kept"),
                  ["(b | (a & c))", "worse: a b", "shut", "ok", "shut", "(b | a)"])

    def test_errors_of_the_edits(self):
        desk = desk_with("keep low high")
        for line in ("drop z", "sure z", "put z a", "put z shut"):
            self.fails(NoName, ["z"], desk.say, line)
        for line in (f"beside {ROW}", f"behind {ROW}", f"put b {ROW}"):
            self.fails(TooMany, [14], desk.say, line)
        self.same(desk.run("kept", "undo"), ["(b | (a & c))", "nothing"])

    def test_drawn_edits(self):
        chance = random.Random(192)
        for one, other in [pair for pair in web_pairs(60, 4) if never_worse(*pair)]:
            desk, keeper = Desk(), Keeper(one, other)
            desk.run(f"web one {one}", f"web other {other}", "keep one other")
            while len(keeper) < 6 and len(keeper.web) < 7 and chance.random() < 0.93:
                web = random_web(chance, 2, "abx")
                name = chance.choice(keeper.web.names or ("a",))
                words = chance.choice(["drop", "sure", "put", "beside", "behind", "undo"])
                line = {"drop": f"drop {name}", "sure": f"sure {name}", "put": f"put {name} {web}", "undo": "undo",
                        "beside": f"beside {web}", "behind": f"behind {web}"}[words]
                if name not in keeper.web and words in ("drop", "sure", "put"):
                    self.fails(NoName, [name], desk.say, line)
                    continue
                before = len(keeper)
                answer = desk.say(line)
                if words == "undo":
                    self.same(answer, "ok" if keeper.undo() else "nothing")
                    continue
                edited = behind_edit(keeper.web, words, name, web)
                if never_worse(one, edited):
                    do(keeper, words, name, web)
                    self.same([answer, len(keeper)], ["ok", before + 1])
                else:
                    self.same(answer, f"worse: {listed(plain_apart(one, edited)[0])}")
                self.same(desk.say("kept"), str(keeper.web))


class NoLineTest(Case):
    def test_lines_that_are_none(self):
        lines = ["", " ", "ways", "ways ", "ways  low", "ways low ", " ways low", "ways low high", "Ways low", "way low", "show",
                 "show low low", "cuts", "idle", "idle low x", "order low", "order low high low", "order low ", "order  low high",
                 "why low", "why", "keep low", "keep", "keep low high x", "tell", "tell flow", "tell flow low x", "tell stream low",
                 "tell Flow low", "tell low flow", "tell  low", "web", "web w", "web w ", "web w  a", "web  a", "web w a b", "web w (a",
                 "web w (a & b", "web w open ", "web open a", "web shut a", "web net a", "web A a", "web w1 a", "web abcdefghi a",
                 "web w A", "web w net", f"web w ({ROW} & o)", "web w (a & b | c)", "at", "at ", "at a", "at a 1,", "at a -1",
                 "at a endless", "at  a 1", "at a 1 ", "at none, a 1", "at open 1", "drop", "drop ", "drop a b", "drop open", "drop A",
                 "drop a ", "sure", "sure a b", "sure net", "put", "put a", "put a ", "put a  b", "put open a", "put a (b", "put a b c",
                 "beside", "beside ", "beside (a", "beside a b", "beside net", "behind", "behind  a", "behind (a | b) ", "kept ", "kept x",
                 "undo ", "undo 1", "undo undo", "show open", "show A", "show abcdefghi", "ways low\n", "\nways low", "show low,high",
                 "keep low open", "order shut low", "tell flow open", "quit", "desk", "make_one a", "set low", "show l0w"]
        for desk in (Desk(), desk_with("keep low high")):
            for line in lines:
                self.fails(NoLine, [], desk.say, line)
                self.fails(NoLine, [], desk, line)
                self.fails(NoLine, [], desk.run, line)
            for odd in odd_values():
                self.fails(NoLine, [], desk.say, odd)
                self.fails(NoLine, [], desk.run, odd)

    def test_names_of_webs(self):
        desk = desk_with()
        for line, name in (("show w", "w"), ("ways lows", "lows"), ("cuts w", "w"), ("idle w", "w"), ("tell flow w", "w"),
                           ("order w v", "w"), ("order low v", "v"), ("order v low", "v"), ("why v w", "v"), ("why high w", "w"),
                           ("keep w v", "w"), ("keep low v", "v"), ("tell chance low w", None), ("show way", "way")):
            if name is None:
                self.fails(NoLine, [], desk.say, line)
            else:
                self.fails(NoName, [name], desk.say, line)

    def test_no_keeper(self):
        desk = desk_with("keep high low")
        for line in ("drop a", "sure zz", "put a b", "put zz shut", "beside a", "behind open", "kept", "undo", f"beside {ROW}"):
            self.fails(NoName, [""], desk.say, line)
        for line in ("drop", "sure open", "put a", "put a (", "beside", "behind A", "kept x", "undo "):
            self.fails(NoLine, [], desk.say, line)

    def test_names_ahead_of_what_is_asked(self):
        desk = desk_with("at none")
        self.fails(NoName, ["w"], desk.say, "tell flow w")
        self.fails(NoValue, ["a"], desk.say, "tell flow low")


class RunTest(Case):
    def told(self, desk):
        """All that a desk tells of itself."""
        found = []
        for line in ("show low", "show high", "show new", "tell length low", "tell flow high", "kept", "undo", "undo", "undo", "kept"):
            try:
                found.append(desk.say(line))
            except (NoName, NoValue) as error:
                found.append(type(error).__name__)
        return found

    def made(self):
        return desk_with("at a 2, * 3", "keep low high", "sure a", "beside e")

    def test_a_line_that_raises(self):
        for last, error, fields in (("", NoLine, []), (None, NoLine, []), ("show nowhere", NoName, ["nowhere"]), ("drop zz", NoName, ["zz"]),
                                    ("tell chance low", BadValue, ["b"]), (f"beside {ROW}", TooMany, [14])):
            for lines in ([], ["web low shut"], ["web new a", "web high shut"], ["at b 2, * 0"], ["drop e"], ["undo"], ["undo", "undo", "undo"],
                          ["keep high high", "sure a"], ["beside d", "keep low low", "beside f", "undo", "undo"],
                          ["web new a", "at b 2, a 1, c 1", "undo", "sure c", "keep low high", "web low open"]):
                if error == BadValue:
                    lines = lines + ["web low (a & b)", "at b 2, * 1"]
                desk, fresh = self.made(), self.made()
                self.fails(error, fields, desk.run, *lines, last)
                self.same(self.told(desk), self.told(fresh))
                desk = self.made()
                self.fails(error, fields, desk.run, *lines, last, "web low a", "undo")
                self.same(self.told(desk), self.told(self.made()))

    def test_without_a_keeper(self):
        desk = desk_with()
        self.fails(NoName, ["w"], desk.run, "keep low high", "sure a", "web new a", "show w")
        self.fails(NoName, [""], desk.say, "undo")
        self.fails(NoName, ["new"], desk.say, "show new")
        self.same(desk.run("show low", "keep low high", "undo"), ["(a & (b | c))", "ok", "nothing"])
        self.fails(NoLine, [], desk.run, "keep high high", 1)
        self.same(desk.run("drop b", "sure a"), ["worse: a b", "ok"])

    def test_refusals_are_no_errors(self):
        desk = self.made()
        self.same(desk.run("drop b", "keep high low", "undo", "undo", "undo"),
                  ["worse: a b", "worse: b", "ok", "ok", "nothing"])
        self.same(desk.run("drop b", "keep high low", "sure c", "kept"), ["worse: a b", "worse: b", "ok", "(b | a)"])

    def test_a_run_that_ends_stays(self):
        desk = desk_with()
        self.same(desk.run("web new a", "at * 2", "keep low high", "sure c"), ["ok", "ok", "ok", "ok"])
        self.same(desk.run("show new", "tell length new", "kept", "undo"), ["a", "2", "(b | a)", "ok"])

    def test_two_desks(self):
        one, other = desk_with("keep low high"), desk_with()
        one.run("sure a", "web low shut", "at none")
        self.same(other.run("show low", "tell length low"), ["(a & (b | c))", "2"])
        self.fails(NoName, [""], other.say, "kept")
        answers = one.run("show low")
        answers.clear()
        self.same([one.run("show low"), one == other, one == one], [["shut"], False, True])

    def test_fourteen_names(self):
        desk = Desk()
        self.same(desk.run(f"web w {ROW}", "ways w", "tell length w", "keep w w", "sure a", "undo"),
                  ["ok", " ".join(LETTERS[:14]), "14", "ok", "ok", "ok"])
        self.same(read_values("none") == Values(), True)
        self.same([str(LOW), str(HIGH)], ["(a & (b | c))", "(b | (a & c))"])


if __name__ == "__main__":
    unittest.main()
