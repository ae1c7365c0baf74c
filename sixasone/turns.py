"""Turns: parts with two outer joints, the other way round."""

from sixasone.errors import NoTurn, TooMany
from sixasone.idles import bare
from sixasone.orders import alike
from sixasone.plains import check_plain
from sixasone.trees import are_names
from sixasone.webs import Web

MOST_LINKS = 5
MOST_TURNS = 60


def is_part(web, thing):
    """Whether any value is an ascending tuple of names of the web, at least one."""
    return are_names(thing) and thing != () and all([name in web for name in thing])


def outer_joints(web, names):
    """The ascending list of the outer joints of the part of these names."""
    within = [joint for name, u, v in web.links if name in names for joint in (u, v)]
    beyond = [joint for name, u, v in web.links if name not in names for joint in (u, v)]
    return sorted(set([joint for joint in within if joint in (0, 1) or joint in beyond]))


def turned_net(web, names, p, q):
    """The net in which the part of these names touches p where it touched q, and q where it touched p."""
    instead = {joint: joint for joint in web.joints}
    instead[p], instead[q] = q, p
    links = [(name, instead[u], instead[v]) if name in names else (name, u, v) for name, u, v in web.links]
    return Web.net(links)


def turn(web, names):
    """The net in which the part of these names is turned."""
    check_plain(web)
    if not is_part(web, names):
        raise NoTurn(0)
    outer = outer_joints(web, names)
    if len(outer) != 2:
        raise NoTurn(1)
    return turned_net(web, names, outer[0], outer[1])


def touching(web, joint):
    """The names of the links that touch a joint, those of loops twice."""
    return tuple([name for name, u, v in web.links for end in (u, v) if end == joint])


def pattern(web):
    """What plain nets have in common that are the same: the names at each joint, however it is numbered."""
    inner = sorted(set([touching(web, joint) + (str(joint),) for joint in web.joints[2:]]))
    return (web.kind == "open", touching(web, 0), touching(web, 1), tuple([names[:-1] for names in inner]))


def same_net(one, other):
    """Whether two plain webs have the same links up to the numbers of their inner joints."""
    check_plain(one, other)
    return pattern(one) == pattern(other)


def all_parts(names):
    """All ascending tuples of some of the names, at least one."""
    found = [()]
    for name in names:
        found = found + [part + (name,) for part in found]
    return found[1:]


def turns_from(web):
    """The pairs of a part that can be turned, and the net in which it is turned."""
    parts = [(names, outer_joints(web, names)) for names in all_parts(web.names)]
    return [(names, turned_net(web, names, outer[0], outer[1])) for names, outer in parts if len(outer) == 2]


def turns_to(start, goal):
    """The shortest list of turns from a net to one that is the same as the goal."""
    found = {pattern(start): []}
    waiting = [start]
    while pattern(goal) not in found:
        here = waiting.pop(0)
        road = found[pattern(here)]
        for names, net in turns_from(here):
            if pattern(net) not in found:
                found[pattern(net)] = road + [names]
                waiting.append(net)
    return list(found[pattern(goal)])


def turns_between(one, other):
    """A list of turns between the bare webs of two webs that are alike, or None."""
    check_plain(one, other)
    start, goal = bare(one), bare(other)
    if len(start) > MOST_LINKS or len(goal) > MOST_LINKS:
        raise TooMany(MOST_LINKS)
    return turns_to(start, goal) if alike(one, other) else None


def shows_turns(one, other, thing):
    """Whether any value is such a list."""
    check_plain(one, other)
    if not isinstance(thing, list) or len(thing) > MOST_TURNS:
        return False
    net = bare(one)
    for names in thing:
        outer = outer_joints(net, names) if is_part(net, names) else []
        if len(outer) != 2:
            return False
        net = turned_net(net, names, outer[0], outer[1])
    return pattern(net) == pattern(bare(other))
