"""The examples of the document, as they stand there, for the points that have landed."""

import unittest

# Each block is run by itself; a block has what the blocks that it names imported and bound.
RATIOS = """
>>> from sixasone.ratios import Ratio
>>> half = Ratio(2, 4)
>>> [str(half), half.top, half + 1, 2 - half, half * half, half.over(3), -half]
['1/2', 1, Ratio(3/2), Ratio(3/2), Ratio(1/4), Ratio(1/6), Ratio(-1/2)]
>>> [Ratio(7, 2) // 1, Ratio(7, 2) % 1, -half // 1, -half % 1, 2 // half, abs(-half) == half, half == 1, 0 < half < 1]
[3, Ratio(1/2), -1, Ratio(1/2), 4, True, False, True]
>>> [Ratio.endless() + 3, half.over(Ratio.endless()), Ratio.total([1, half]), Ratio.least([]), Ratio.greatest([half, 2])]
[Ratio(endless), Ratio(0), Ratio(3/2), Ratio(endless), Ratio(2)]
>>> 0 * Ratio.endless()
raises NoRatio()
>>> [Ratio.read("-3/4"), Ratio.read("6/4"), Ratio.read("0/7"), Ratio.read("endless").is_endless]
[Ratio(-3/4), Ratio(3/2), Ratio(0), True]
>>> Ratio.read("2/0")
raises BadText(2)
>>> Ratio.read("03")
raises BadText(1)
>>> Ratio.read("-0")
raises BadText(1)
>>> Ratio.read("3/")
raises BadText(2)
>>> Ratio.read("endles")
raises BadText(6)
>>> Ratio.read("endlessx")
raises BadText(7)
"""

WEBS = """
>>> from sixasone.webs import Web
>>> web = "a" & (Web.row("b", "c") | "d") & "e"
>>> [str(web), web.kind, len(web), web.links]
['(a & ((b & c) | d) & e)', 'row', 5, (('a', 0, 2), ('b', 2, 4), ('c', 3, 4), ('d', 2, 3), ('e', 1, 3))]
>>> [str(~web), str(-web), str(web - "d"), str(web // "d"), web - "a" == Web.never()]
['(a | ((b | c) & d) | e)', '(e & ((c & b) | d) & a)', '(a & b & c & e)', '(a & e)', True]
>>> bridge = Web.net([("a", 0, 2), ("b", 0, 3), ("m", 3, 2), ("c", 2, 1), ("d", 3, 1)])
>>> [str(bridge), str(bridge // "a"), (bridge // "a" // "c").kind]
['[0-a-2 0-b-3 1-c-2 1-d-3 2-m-3]', '[0-b-3 0-c-1 1-d-3 0-m-3]', 'open']
>>> [bridge.put("m", Web.row("x", "y")).links[4:], bridge.put("m", "a").is_plain]
[(('x', 2, 4), ('y', 3, 4)), False]
>>> (bridge & "z").links
(('a', 0, 3), ('b', 0, 4), ('c', 2, 3), ('d', 2, 4), ('m', 3, 4), ('z', 1, 2))
>>> [str(Web.net([("a", 0, 2), ("a", 2, 0), ("b", 2, 1)]) // "a"), Web.row("a", Web.never()).names]
['[0-b-1]', ()]
>>> Web.net([("a", 0, 1), ("b", 0, 100)])
raises BadWeb(1)
>>> ~bridge
raises NotTied()
"""

WAYS = """
>>> from sixasone.ways import joined, walk_of, way_in, ways
>>> from sixasone.cuts import cut_in, cuts
>>> from sixasone.idles import bare, idle
>>> [list(ways(bridge)), list(cuts(bridge))[:2]]
[[('a', 'c'), ('b', 'd'), ('a', 'd', 'm'), ('b', 'c', 'm')], [('a', 'b'), ('c', 'd')]]
>>> [joined(bridge, ["a", "m", "d"]), joined(bridge, ["a", "m"]), way_in(bridge, ["m", "d", "a", "c"])]
[True, False, ('a', 'c')]
>>> [walk_of(bridge, ("b", "c", "m")), walk_of(Web.bunch("x", "x"), ("x",))]
[(1, 4, 2), (0,)]
>>> cut_in(bridge, ["b", "d", "m", "c"])
('c', 'd')
>>> [idle(Web.net([("a", 2, 3)])), bare(Web.net([("a", 2, 3)])) == Web.never()]
[('a',), True]
"""

VALUES = """
>>> from sixasone.values import Values
>>> values = Values({"b": 3, "a": half})
>>> [values["a"], values.names, len(values), "c" in values, values.rest]
[Ratio(1/2), ('a', 'b'), 2, False, None]
>>> values["c"]
raises NoValue('c')
>>> values.rest = 1
>>> [values["c"], "c" in values, values.over()["b"], values.times(2)["c"]]
[Ratio(1), False, Ratio(1/3), Ratio(2)]
>>> values.turned()
raises BadValue('b')
>>> def ask(held):
...     held["a"] = 5
...     held.rest = None
...     return held["a"]
>>> [values.tried(ask), values["a"], values["zz"]]
[Ratio(5), Ratio(1/2), Ratio(1)]
>>> [str(Values.two(["a", "c"], 0, 1)["b"]), Values.two(["a"], 0, 1).names, Values() == Values({})]
['1', ('a',), True]
>>> Values({"a": -1, "A": 2})
raises BadName('A')
"""

MEASURES = """
>>> from sixasone.ratios import Ratio
>>> from sixasone.webs import Web
>>> from sixasone.values import Values
>>> from sixasone.measures import Joined, Length, Width
>>> bridge = Web.net([("a", 0, 2), ("b", 0, 3), ("m", 2, 3), ("c", 2, 1), ("d", 3, 1)])
>>> bridge.links
(('a', 0, 2), ('b', 0, 3), ('c', 1, 2), ('d', 1, 3), ('m', 2, 3))
>>> rooms = Values({"a": 5, "b": 2, "c": 2, "d": 4, "m": 3})
>>> [str(Width()(bridge, rooms)), Width().walk_in(bridge, rooms), str(Length()(bridge, rooms))]
['3', (0, 4, 3), '6']
>>> levels = (Ratio(0), Ratio(6), Ratio(4), Ratio(2))
>>> [Length().shows(bridge, rooms, Ratio(6), ("way", (1, 3), levels)), Length().shows(bridge, rooms, 6, ("way", (1, 3), levels))]
[True, False]
>>> few = Values({"a": 1, "d": 1})
>>> few.rest = 0
>>> [str(Joined()(bridge, few)), Joined().shows(bridge, few, Ratio(0), ("cut", (1, 2, 4))), Joined().walk_in(bridge, few)]
['0', True, None]
>>> Length()(bridge, Values({"a": 1}))
raises NoValue('b')
"""

FLOWS = """
>>> from sixasone.flows import Flow
>>> from sixasone.eases import Ease
>>> [str(Flow()(bridge, rooms)), Flow().shut_in(bridge, rooms)]
['6', (2, 3)]
>>> streams = tuple([Ratio(n) for n in (4, 2, -2, -4, 2)])
>>> Flow().shows(bridge, rooms, Ratio(6), ("stream", streams, (2, 3)))
True
>>> eases = Values({"a": 2, "b": 1, "c": 1, "d": 2, "m": 1})
>>> [str(Ease()(bridge, eases)), [str(n) for n in Ease().paper_of(bridge, eases)[2]]]
['7/5', ['1', '0', '3/5', '2/5']]
"""

# The document tells these in words.
CASES = """
>>> from sixasone.cases import is_tree, leaves, mass, questions
>>> from sixasone.chances import Chance
>>> from sixasone.papers import fixed, turned
>>> T = ("ask", "a", ("ask", "b", ("way", ("b",)), ("ask", "c", ("way", ("a", "c")), ("cut", ("b", "c")))), ("cut", ("a",)))
>>> first, second = "a" & (Web.link("b") | "c"), "b" | ("a" & Web.link("c"))
>>> [is_tree(first, second, T), questions(T), len(list(leaves(T))), list(leaves(T))[1]]
[True, 3, 4, (('a', 'c'), ('b',), ('way', ('a', 'c')))]
>>> halves = Values.two([], 0, Ratio(1, 2))
>>> [str(mass(T, halves)), str(Chance()(first, halves)), str(Chance()(second, halves))]
['3/8', '3/8', '5/8']
>>> turned(T)
('ask', 'a', ('way', ('a',)), ('ask', 'b', ('ask', 'c', ('way', ('b', 'c')), ('cut', ('a', 'c'))), ('cut', ('b',))))
>>> is_tree("b" & (Web.link("a") | "c"), "a" | ("b" & Web.link("c")), turned(T))
True
>>> fixed(T, "b", True)
('ask', 'a', ('way', ()), ('cut', ('a',)))
>>> fixed(T, "b", False)
('ask', 'a', ('ask', 'c', ('way', ('a', 'c')), ('cut', ('c',))), ('cut', ('a',)))
"""

NAMED = """
>>> from sixasone.named import WORDS, measure
>>> [WORDS, measure("flow") == Flow()]
[('joined', 'length', 'width', 'flow', 'chance', 'ease'), True]
>>> measure("stream")
raises BadName('stream')
"""

ORDER = """
>>> from sixasone.lookers import shows_above, shows_apart, shows_by_links
>>> from sixasone.orders import alike, compare
>>> from sixasone.webs import Web
>>> A, B = "b" | ("a" & Web.link("c")), "a" & ("b" | Web.link("c"))
>>> [B <= A, A <= B, B < A, alike("a" & Web.link("b"), "b" & Web.link("a"))]
[True, False, True, True]
>>> compare(A, B).paper
('apart', ('b',), ('a',))
>>> crossed = Web.net([("a", 0, 2), ("b", 0, 3), ("m", 2, 3), ("d", 2, 1), ("c", 3, 1)])
>>> [bridge <= crossed, crossed <= bridge, compare(bridge, crossed).paper]
[False, False, ('apart', ('a', 'c'), ('b', 'd', 'm'))]
>>> tree = ("ask", "b", ("way", ("b",)), ("ask", "a", ("ask", "c", ("way", ("a", "c")), ("cut", ("b", "c"))), ("cut", ("a",))))
>>> [shows_above(B, A, tree), shows_above(A, B, tree), shows_by_links(B, A)]
[True, False, True]
"""

CARRYING = """
>>> from sixasone.carrying import carry_cut, carry_heights, carry_stream, carry_way
>>> from sixasone.cases import tree_of
>>> from sixasone.streams import amount, apart, is_stream, work
>>> worse = (Web.link("a") | "b") & "m" & (Web.link("c") | "d")
>>> half = Ratio(1, 2)
>>> stream = (half, half, -half, -half, Ratio(1))
>>> pairs = apart(worse, stream)
>>> [is_stream(worse, stream), str(amount(worse, stream)), str(Ratio.total([part for walk, part in pairs])), {len(walk) for walk, part in pairs}]
[True, '1', '1', {3}]
>>> tree = tree_of(worse, bridge)
>>> carried = carry_stream(tree, worse, bridge, stream)
>>> [[str(n) for n in carried], str(work(worse, Values({"a": 1, "b": 1, "c": 1, "d": 1, "m": 1}), stream))]
[['1/2', '1/2', '-1/2', '-1/2', '0'], '2']
>>> [carry_way(tree, ["m"]), set(carry_cut(tree, ["a", "b"])) <= {"a", "b"}]
[None, True]
>>> low, high = "a" & (Web.link("b") | "c"), "b" | (Web.link("a") & "c")
>>> [low.links, high.links]
[(('a', 0, 2), ('b', 1, 2), ('c', 1, 2)), (('a', 0, 2), ('b', 0, 1), ('c', 1, 2))]
>>> heights = (Ratio(1), Ratio(0), Ratio(4, 9))
>>> [str(n) for n in carry_heights(tree_of(low, high), low, high, heights)]
['1', '0', '4/9']
"""

BRIDGES = """
>>> from sixasone.bridges import is_bridge, shows_tied, tied_of
>>> from sixasone.normals import normal
>>> str(normal("d" & (Web.link("c") | ("b" & Web.link("a")))))
'(((a & b) | c) & d)'
>>> [is_bridge(bridge), is_bridge(bridge & "z"), tied_of("z" & bridge)]
[True, False, ('bridge', (), ('z',))]
>>> tied_of(Web.net([("a", 0, 2), ("b", 2, 3), ("c", 1, 3), ("d", 0, 3), ("i", 2, 2)]))[0]
'tied'
>>> shows_tied(bridge | "z", ("bridge", ("z",), ()))
True
"""

# The document tells these in words.
TURNS = """
>>> from sixasone.turns import same_net, shows_turns, turn, turns_between
>>> turn(Web.row("a", "b", "c"), ("a", "b")).links
(('a', 2, 3), ('b', 0, 2), ('c', 1, 3))
>>> turn(Web.row("a", "b", "c"), ("a", "c"))
raises NoTurn(1)
>>> turn(Web.bunch(Web.row("a", "c"), "b"), ("a", "c")).links
(('a', 1, 2), ('b', 0, 1), ('c', 0, 2))
>>> [same_net(turn(bridge, bridge.names), -bridge), turns_between(bridge, crossed)]
[True, None]
>>> [turns_between(Web.row("a", "b"), Web.row("b", "a")), shows_turns(Web.row("a", "b"), Web.row("b", "a"), [("a", "b")])]
[[('a', 'b')], True]
"""

MIXES = """
>>> from sixasone.mixes import never_less, never_longer, shows_longer
>>> from sixasone.webs import Web
>>> xy, pairs = Web.row("x", "y"), Web.bunch(Web.row("x", "x"), Web.row("y", "y"))
>>> never_longer(xy, pairs)
('mix', ((('x', 'y'), (Ratio(1/2), Ratio(1/2))),))
>>> never_longer(pairs, xy)[:2]
('bar', ('x', 'x'))
>>> shows_longer(pairs, xy, ("bar", ("x", "x"), {"x": 0, "y": 1}))
True
>>> [never_less(Web.link("x"), Web.row("x", "x"))[0], never_longer(Web.link("x"), Web.row("x", "x"))[0]]
['mix', 'bar']
>>> never_less(Web.bunch("x", "x"), Web.link("x"))[:2]
('bar', ('x',))
>>> never_longer(Web.never(), xy)
('mix', ())
"""

KEEPERS = """
>>> from sixasone.fixes import least_sure
>>> from sixasone.keepers import Keeper
>>> keeper = Keeper(B, A)
>>> keeper.drop("b")
raises Worse(('a', 'b'), ('c',))
>>> [keeper.make_one("a"), str(keeper.web), keeper.log, len(keeper), keeper.undo()]
[None, '(b | c)', [('make_one', 'a')], 1, True]
>>> least_sure(A, B)
(('a',), [((), ('b',), ('a',))])
"""

TEXTS = """
>>> from sixasone.texts import read_tree, read_values, write_values
>>> [str(Web.read("(b & (a & c))")), Web.read("[3-x-0 1-y-3]").links, Web.read("open").kind]
['(b & a & c)', (('x', 0, 3), ('y', 1, 3)), 'open']
>>> Web.read("(a & b) ")
raises BadText(7)
>>> Web.read("(open & a)")
raises BadText(5)
>>> Web.read("[0-a-100]")
raises BadText(7)
>>> Web.read("net")
raises BadText(3)
>>> Web.read("((((((((((((((a")
raises BadText(13)
>>> Web.read("(a & b | c)")
raises BadText(7)
>>> write_values(read_values("b 6/4, * 1, a 0"))
'a 0, b 3/2, * 1'
>>> read_tree("(a ? way a : cut a c)")
('ask', 'a', ('way', ('a',)), ('cut', ('a', 'c')))
>>> read_values("a 1/0")
raises BadText(4)
>>> read_values("a 2/4, b 03")
raises BadText(10)
>>> read_values("none, a 1")
raises BadText(4)
"""

DESK = """
>>> from sixasone.desk import Desk
>>> desk = Desk()
>>> desk.run("web low (a & (b | c))", "web high (b | (a & c))", "ways low", "order low high", "at a 4, b 3, c 5", "tell flow low")
['ok', 'ok', 'a b / a c', 'second', 'ok', '4']
>>> desk.run("keep low high", "drop b", "sure a", "kept", "undo", "undo")
['ok', 'worse: a b', 'ok', '(b | c)', 'ok', 'nothing']
>>> desk.say("ways")
raises NoLine()
"""

IN_ORDER = [RATIOS, WEBS, WAYS, VALUES, MEASURES, FLOWS, CASES, NAMED, ORDER, CARRYING, BRIDGES, TURNS, MIXES, KEEPERS, TEXTS, DESK]


def told(call, source, bound):
    """What the document writes behind an example."""
    try:
        if call == "exec":
            exec(source, bound)
            return ""
        return repr(eval(source, bound))
    except ValueError as error:
        return f"raises {type(error).__name__}({', '.join(repr(field) for field in vars(error).values())})"


def examples(block):
    """The pairs of a source and what is told behind it."""
    found = []
    for line in block.strip().split("\n"):
        if line.startswith(">>> "):
            found.append([line[4:], ""])
        elif line.startswith("... "):
            found[-1][0] += "\n" + line[4:]
        else:
            found[-1][1] += line
    return found


class ExamplesTest(unittest.TestCase):
    def test_all_in_their_order(self):
        bound = {}
        for block in IN_ORDER:
            for source, wanted in examples(block):
                with self.subTest(source=source):
                    self.assertEqual(told("eval" if wanted else "exec", source, bound), wanted)


if __name__ == "__main__":
    unittest.main()
