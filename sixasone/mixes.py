"""Mixes of counts: webs that are never longer or never let through less, where names stand at several places."""

from sixasone.cuts import cut_list
from sixasone.errors import TooMany
from sixasone.names import is_int
from sixasone.ratios import Ratio, common_bottom
from sixasone.simplex import are_weights, packing, weighed
from sixasone.walks import names_of_both
from sixasone.ways import way_list

MOST_PLACES = 8


def check_places(*webs):
    """Raises TooMany if one of the webs has too many places for a search."""
    for web in webs:
        if len(web) > MOST_PLACES:
            raise TooMany(MOST_PLACES)


def numbers_in(names, count):
    """How often each of the names stands in a count."""
    return tuple([count.count(name) for name in names])


def packed(names, counts, bound):
    """A greatest packing of counts into one, and its prices."""
    # The empty count comes alone; it is at most each count, as often as one likes.
    if counts == [()]:
        return (Ratio(1),), ()
    return packing([numbers_in(names, count) for count in counts], numbers_in(names, bound))


def whole_numbers(names, prices):
    """By name: whole numbers in the proportion of prices."""
    bottom = common_bottom(prices)
    return {name: price.top * (bottom // price.bottom) for name, price in zip(names, prices)}


def mixed(names, bounds, counts):
    """A mix of the counts for each bound, or the first bound that has none, with numbers that bar it."""
    rows = []
    for bound in bounds:
        weights, prices = packed(names, counts, bound)
        total = Ratio.total(weights)
        if total < 1:
            return ("bar", bound, whole_numbers(names, prices))
        rows.append((bound, tuple([weight.over(total) for weight in weights])))
    return ("mix", tuple(rows))


def never_longer(one, other):
    """Whether other never has a longer shortest way, with what shows it."""
    check_places(one, other)
    return mixed(names_of_both(one, other), way_list(one), way_list(other))


def never_less(one, other):
    """Whether other never has less flow, with what shows it."""
    check_places(one, other)
    return mixed(names_of_both(one, other), cut_list(other), cut_list(one))


def is_mix(names, bound, counts, weights):
    """Whether any value is weights by which the counts are a mix that is at most a bound."""
    if not are_weights(weights, len(counts)) or Ratio.total(weights) != Ratio(1):
        return False
    over = [weighed(weights, [count.count(name) for count in counts]) > bound.count(name) for name in names]
    return not any(over)


def are_rows(names, bounds, counts, thing):
    """Whether any value is a pair of a bound and a mix for each bound, in their order."""
    if not isinstance(thing, tuple) or len(thing) != len(bounds):
        return False
    for row, bound in zip(thing, bounds):
        if not isinstance(row, tuple) or len(row) != 2 or row[0] != bound:
            return False
        if not is_mix(names, bound, counts, row[1]):
            return False
    return True


def cost(numbers, count):
    """What a count comes to."""
    return sum([numbers[name] for name in count])


def is_bar(names, bounds, counts, bound, numbers):
    """Whether any two values are a bound and numbers by which it comes to less than each of the counts."""
    if bound not in bounds or not isinstance(numbers, dict) or len(numbers) != len(names):
        return False
    if not all([name in numbers and is_int(numbers[name]) and numbers[name] >= 0 for name in names]):
        return False
    return all([cost(numbers, bound) < cost(numbers, count) for count in counts])


def is_shown(names, bounds, counts, thing):
    """Whether any value is what `mixed` may tell, with any of the bounds that are barred."""
    if not isinstance(thing, tuple):
        return False
    if len(thing) == 2 and thing[0] == "mix":
        return are_rows(names, bounds, counts, thing[1])
    if len(thing) == 3 and thing[0] == "bar":
        return is_bar(names, bounds, counts, thing[1], thing[2])
    return False


def shows_longer(one, other, thing):
    """Whether any value shows what never_longer tells."""
    return is_shown(names_of_both(one, other), way_list(one), way_list(other), thing)


def shows_less(one, other, thing):
    """Whether any value shows what never_less tells."""
    return is_shown(names_of_both(one, other), cut_list(other), cut_list(one), thing)
