"""Cuts: the fewest ties to be put off, so that there is no ring, and rings that share no tie."""

from itertools import combinations

from loadhall.errors import TooDeep
from loadhall.plans import leads_of, rings_of, ties

MOST_TIES = 10


def without(pairs, some):
    """Tell the ties that aren't among some."""
    return [pair for pair in pairs if pair not in some]


def cut_of_many(pairs, many):
    """Tell the least rising list of so many ties without which there is no ring, None where there is none."""
    for some in combinations(pairs, many):
        if not rings_of(without(pairs, some)):
            return list(some)
    return None


def cut_of(pairs):
    """Tell the least of the shortest rising lists of ties without which there is no ring."""
    many = 0
    while (found := cut_of_many(pairs, many)) is None:
        many += 1
    return found


def cut(hall):
    """Tell the least of the shortest rising lists of the hall's ties without which there is no ring."""
    pairs = ties(hall)
    lots = rings_of(pairs)
    # a tie from one lot to another is in no ring, so each lot is cut by itself
    within = [[pair for pair in pairs if pair[0] in lot and pair[1] in lot] for lot in lots]
    for lot, some in zip(lots, within):
        if len(some) > MOST_TIES:
            raise TooDeep(lot[0])
    found = []
    for some in within:
        found.extend(cut_of(some))
    return sorted(found)


def judge_cut(hall, some):
    """Tell of anything whether it is a list of ties of the hall, none twice, without which there is no ring."""
    pairs = ties(hall)
    if not isinstance(some, list) or not all([one in pairs for one in some]):
        return False
    return len(set(some)) == len(some) and not rings_of(without(pairs, some))


def longer_paths(leads, paths, reached):
    """Tell the paths longer by one name, to names behind the first that weren't reached yet."""
    longer = []
    for path in paths:
        for name in leads[path[-1]]:
            if name > path[0] and name not in reached:
                reached[name] = True
                longer.append([*path, name])
    return longer


def round_from(leads, first):
    """Tell the least of the shortest rounds from a name over names behind it, None where there is none."""
    reached = {}
    # paths of one length stand in their order, so the first to come to a name is the least
    paths = [[first]]
    while paths:
        for path in paths:
            if first in leads[path[-1]]:
                return path
        paths = longer_paths(leads, paths, reached)
    return None


def shortest_round(pairs):
    """Tell the least of the shortest rounds of a rising list of ties, None where there is none."""
    leads = leads_of(pairs)
    rounds = [round_from(leads, name) for name in sorted(leads)]
    return min([one for one in rounds if one is not None], key=len, default=None)


def apart(hall):
    """Tell rings that share no tie, the shortest round first, then the shortest of what is left, and so on."""
    pairs = ties(hall)
    found = []
    while (ring := shortest_round(pairs)) is not None:
        found.append(ring)
        pairs = without(pairs, list(zip(ring, ring[1:] + ring[:1])))
    return found
