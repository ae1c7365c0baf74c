"""Point [32]: a keeper of a floor."""

import random
import unittest

from drawn import HIGH, LOW, never_worse, plain_apart, web_pairs
from plain import plain_is_tree
from samples import LETTERS, Case, frozen, odd_values, random_web
from sixasone.errors import BadName, BadWeb, Barred, NoName, TooMany, WebError, Worse
from sixasone.keepers import Keeper
from sixasone.values import Values
from sixasone.webs import Web

A, B = "b" | ("a" & Web.link("c")), "a" & ("b" | Web.link("c"))


class PlainKeeper:
    """A plain keeping of the webs: edits are refused by all sets of names."""

    def __init__(self, floor, web):
        self.floor, self.web, self.edits = floor, web, []

    def tell(self, edit):
        """The web behind an edit."""
        word, *told = edit
        others = [thing if isinstance(thing, Web) else Web.link(thing) for thing in told[-1:]]
        if word == "drop":
            return self.web.without(*told)
        if word == "make_one":
            return self.web.sure(*told)
        if word == "put":
            return self.web.put(told[0], others[0])
        return Web.bunch(self.web, others[0]) if word == "beside" else Web.row(self.web, others[0])

    def become(self, web, edit):
        """The way and the cut of a refusal, or None."""
        if not never_worse(self.floor, web):
            return plain_apart(self.floor, web)
        self.edits.append((edit, self.web))
        self.web = web
        return None

    @property
    def log(self):
        return [edit[:-1] + (str(edit[-1]),) for edit, _ in self.edits]


def drawn_edit(chance, web):
    """An edit of a web that has no error but perhaps Worse."""
    other = random_web(chance, 2, "abcx") if chance.random() < 0.7 else chance.choice("abx")
    words = ["beside", "behind"] + (["drop", "make_one", "put"] * 2 if len(web) else [])
    word = chance.choice(words)
    if word in ("beside", "behind"):
        return (word, other)
    name = chance.choice(web.names)
    return (word, name, other) if word == "put" else (word, name)


def do(keeper, edit):
    """Asks a keeper for an edit."""
    return getattr(keeper, edit[0])(*edit[1:])


class KeeperCase(Case):
    def refused(self, pair, call, *told):
        """A call is refused with a way and a cut, caused by what bars."""
        with self.assertRaises(Worse) as caught:
            call(*told)
        error = caught.exception
        self.same([error.way, error.cut], list(pair))
        self.assertIs(type(error.__cause__), Barred)
        self.same(error.__cause__.cut, pair[1])

    def check(self, keeper, plain):
        """The keeper keeps what is kept plainly."""
        self.same([keeper.web, keeper.floor, keeper.log, len(keeper)], [plain.web, plain.floor, plain.log, len(plain.edits)])
        self.assertTrue(keeper.web == plain.web and keeper.floor == plain.floor)
        self.assertTrue(plain_is_tree(keeper.floor, keeper.web, keeper.paper))

    def state(self, keeper):
        return frozen([keeper.web, keeper.floor, keeper.log, len(keeper), keeper.paper])


class MakingTest(KeeperCase):
    def test_told_example(self):
        keeper = Keeper(B, A)
        self.refused((("a", "b"), ("c",)), keeper.drop, "b")
        self.same([keeper.make_one("a"), str(keeper.web), keeper.log, len(keeper), keeper.undo()],
                  [None, "(b | c)", [("make_one", "a")], 1, True])

    def test_drawn_webs(self):
        kept = 0
        for one, other in web_pairs(120):
            if never_worse(one, other):
                keeper = Keeper(floor=one, web=other)
                self.check(keeper, PlainKeeper(one, other))
                self.same(Keeper(one, other).paper, keeper.paper)
                kept += 1
            else:
                self.refused(plain_apart(one, other), Keeper, one, other)
        self.assertTrue(20 < kept < 140, kept)


class EditTest(KeeperCase):
    def test_drawn_edits(self):
        chance = random.Random(171)
        told = {"let": 0, "refused": 0, "undone": 0, "bar": 0, "floor": 0, "other floor": 0}
        for one, other in [pair for pair in web_pairs(300) if never_worse(*pair)]:
            keeper, plain = Keeper(one, other), PlainKeeper(one, other)
            for _ in range(14):
                draw = chance.random()
                before = self.state(keeper)
                if draw < 0.25:
                    self.undo(keeper, plain, told)
                elif draw < 0.4:
                    self.set_floor(chance, keeper, plain, told)
                elif len(keeper.web) < 7:
                    edit = drawn_edit(chance, keeper.web)
                    pair = plain.become(plain.tell(edit), edit)
                    told["refused" if pair else "let"] += 1
                    if pair:
                        self.refused(pair, do, keeper, edit)
                        self.same(self.state(keeper), before)
                    else:
                        self.same(do(keeper, edit), None)
                self.check(keeper, plain)
        self.assertTrue(min(told.values()) > 20, told)

    def undo(self, keeper, plain, told):
        before = self.state(keeper)
        if not plain.edits:
            self.same([keeper.undo(), self.state(keeper)], [False, before])
        elif never_worse(plain.floor, plain.edits[-1][1]):
            plain.web = plain.edits.pop()[1]
            self.same(keeper.undo(), True)
            told["undone"] += 1
        else:
            self.refused(plain_apart(plain.floor, plain.edits[-1][1]), keeper.undo)
            self.same(self.state(keeper), before)
            told["bar"] += 1

    def set_floor(self, chance, keeper, plain, told):
        floor = chance.choice([keeper.web, keeper.web, Web.never(), random_web(chance, 3, "ab"), keeper.web & "x"])
        before = self.state(keeper)

        def assign(value):
            keeper.floor = value

        tell = chance.choice([assign, keeper.set_floor])
        if never_worse(floor, plain.web):
            self.same(tell(floor), None)
            plain.floor = floor
            told["floor"] += 1
        else:
            self.refused(plain_apart(floor, plain.web), tell, floor)
            self.same(self.state(keeper), before)
            told["other floor"] += 1

    def test_errors_ahead_of_worse(self):
        keeper = Keeper(LOW, HIGH)
        before = self.state(keeper)
        for odd in odd_values() + ["z", "aa", "open"]:
            for call in (keeper.drop, keeper.make_one):
                self.fails(NoName, [odd], call, odd)
            self.fails(NoName, [odd], keeper.put, odd, None)
            self.fails(NoName, [odd], keeper.put, odd, Web.never())
            if not isinstance(odd, Web) and odd not in ("zzz", "z", "aa"):
                self.fails(BadWeb, [1], keeper.put, "b", odd)
                self.fails(BadWeb, [1], keeper.beside, odd)
                self.fails(BadWeb, [1], keeper.behind, odd)
        row, bunch = Web.row(*LETTERS[:14]), Web.bunch(*LETTERS[:12])
        for call, told in ((keeper.put, ("a", row)), (keeper.put, ("b", Web.row(*LETTERS[:13]))), (keeper.beside, (row,)),
                           (keeper.behind, (bunch,))):
            self.fails(TooMany, [14], call, *told)
        self.same(self.state(keeper), before)
        # What is refused is told only where the web could be made.
        self.refused((("a", "b"), ("c",)), keeper.drop, "b")
        self.refused((("a", "b"), ("c",)), keeper.put, "b", Web.row(Web.never(), "c"))
        self.refused((("a", "b"), ()), keeper.behind, Web.never())
        self.refused((("a", "b"), ("z",)), keeper.behind, "z")
        self.same(self.state(keeper), before)

    def test_texts_in_the_log(self):
        keeper = Keeper(Web.never(), Web.link("a"))
        keeper.beside("b")
        keeper.behind(other=Web.net([("x", 0, 2), ("y", 2, 1)]))
        keeper.put(name="b", other=Web.row("b", Web.bunch("c", "b")))
        keeper.put("x", "z")
        keeper.put("y", Web.always())
        keeper.make_one(name="z")
        keeper.drop(name="c")
        keeper.beside(Web.never())
        keeper.behind(Web.always())
        self.same(keeper.log, [("beside", "b"), ("behind", "[0-x-2 1-y-2]"), ("put", "b", "(b & (c | b))"), ("put", "x", "z"),
                               ("put", "y", "open"), ("make_one", "z"), ("drop", "c"), ("beside", "shut"), ("behind", "open")])
        self.same([str(keeper.web), len(keeper)], ["(a | (b & b))", 9])
        for left in range(8, -1, -1):
            self.same([keeper.undo(), len(keeper)], [True, left])
        self.same([keeper.undo(), str(keeper.web), keeper.log], [False, "a", []])

    def test_the_log_is_the_callers(self):
        keeper = Keeper(Web.never(), Web.link("a"))
        keeper.beside("b")
        keeper.log.clear()
        keeper.log.append(1)
        self.same([keeper.log, len(keeper)], [[("beside", "b")], 1])

    def test_undo_that_the_floor_bars(self):
        keeper = Keeper(Web.never(), Web.row("a", "b"))
        keeper.make_one("b")
        keeper.beside("c")
        keeper.floor = Web.link("a")
        self.same([keeper.undo(), str(keeper.web)], [True, "a"])
        before = self.state(keeper)
        self.refused((("a",), ("b",)), keeper.undo)
        self.same(self.state(keeper), before)
        keeper.set_floor(web=Web.row("a", "b"))
        self.same([keeper.undo(), str(keeper.web), keeper.undo(), str(keeper.floor)], [True, "(a & b)", False, "(a & b)"])


class TrialTest(KeeperCase):
    def kept(self):
        keeper = Keeper(B, A)
        keeper.beside("d")
        return keeper

    def test_blocks_that_end_by_themselves(self):
        keeper = self.kept()
        with keeper.trial() as held:
            self.assertIs(held, keeper)
            held.make_one("a")
            held.floor = Web.link("b")
        self.same([keeper.log, str(keeper.floor), str(keeper.web)], [[("beside", "d"), ("make_one", "a")], "b", "(b | c | d)"])
        self.assertTrue(plain_is_tree(keeper.floor, keeper.web, keeper.paper))

    def test_blocks_that_an_error_leaves(self):
        for error in (ValueError("x"), KeyError(), Worse((), ()), BadName("a"), ZeroDivisionError(), StopIteration(), KeyboardInterrupt()):
            keeper = self.kept()
            before = self.state(keeper)
            with self.assertRaises(type(error)) as caught:
                with keeper.trial() as held:
                    held.make_one("a")
                    held.undo()
                    held.undo()
                    held.floor = Web.never()
                    held.drop("b")
                    raise error
            self.assertIs(caught.exception, error)
            self.same(self.state(keeper), before)
        keeper = self.kept()
        before = self.state(keeper)
        with self.assertRaises(Worse):
            with keeper.trial():
                keeper.make_one("c")
                keeper.floor = Web.link("b")
                keeper.drop("b")
        self.same(self.state(keeper), before)
        # An error that stays within the block changes nothing.
        with keeper.trial():
            keeper.make_one("c")
            with self.assertRaises(NoName):
                keeper.drop("c")
        self.same(keeper.log, [("beside", "d"), ("make_one", "c")])

    def test_trials_within_trials(self):
        keeper = self.kept()
        with keeper.trial():
            keeper.make_one("a")
            middle = self.state(keeper)
            with self.assertRaises(WebError):
                with keeper.trial():
                    keeper.beside("e")
                    with keeper.trial():
                        keeper.beside("f")
                    self.same(len(keeper), 4)
                    raise BadName(0)
            self.same(self.state(keeper), middle)
        self.same(self.state(keeper), middle)
        before = self.state(keeper)
        with self.assertRaises(KeyError):
            with keeper.trial() as outer:
                with outer.trial() as inner:
                    inner.undo()
                outer.undo()
                raise KeyError
        self.same(self.state(keeper), before)
        keeper.undo()
        self.same(keeper.log, [("beside", "d")])

    def test_tried(self):
        keeper = self.kept()

        def ask(held):
            held.make_one("a")
            return [held is keeper, held.log]

        self.same(keeper.tried(ask), [True, [("beside", "d"), ("make_one", "a")]])
        self.same(keeper.log, [("beside", "d"), ("make_one", "a")])
        before = self.state(keeper)

        def spoil(held):
            held.undo()
            held.floor = Web.never()
            return 1 // 0

        with self.assertRaises(ZeroDivisionError):
            keeper.tried(ask=spoil)
        self.same(self.state(keeper), before)
        self.same(keeper.tried(lambda held: None), None)
        self.same(keeper.tried(lambda held: held.tried(lambda again: len(again))), 2)

    def test_two_keepers(self):
        one, other = self.kept(), self.kept()
        before = self.state(other)
        with self.assertRaises(KeyError):
            with one.trial(), other.trial():
                one.make_one("a")
                other.make_one("a")
                raise KeyError
        self.same([self.state(one), self.state(other)], [before, before])
        one.make_one("a")
        self.same([self.state(other), one == other, one == one], [before, False, True])

    def test_values_are_another_matter(self):
        values, keeper = Values({"a": 1}), self.kept()
        with values.trial(), keeper.trial():
            values["a"] = 2
            keeper.make_one("a")
        self.same([str(values), len(keeper)], ["a 1", 2])


if __name__ == "__main__":
    unittest.main()
