"""Plans: which names that lie want one another, which of them in rings, and in what order a name's bodies begin."""

from loadhall.errors import NoName
from loadhall.halls import bare_hall
from loadhall.lying import Lying
from loadhall.names import is_name


def row_tie(lying, name, row):
    """Tell what a row of the body of a name wants by itself, None where it is nothing that lies."""
    other = None
    if row[0] in ("load", "may"):
        other = row[1]
    elif row[0] == "from":
        other = lying.near(name, row[1])
    return other if lying.lies(other) else None


def name_ties(lying, name):
    """Tell the names that lie and that the body of a name wants by itself, some perhaps more than once."""
    found = [row_tie(lying, name, row) for row in lying.rows_under(name) or []]
    return [other for other in found if other is not None]


def ties(hall):
    """Tell the rising list of tuples of two names that lie, of which the first one's body wants the other."""
    lying = Lying(hall)
    found = {(name, other): True for name in lying.all_names() for other in name_ties(lying, name)}
    return sorted(found)


def leads_of(pairs):
    """Tell of each name of ties the names to which it leads by one tie."""
    leads = {}
    for one, other in pairs:
        leads.setdefault(one, []).append(other)
        leads.setdefault(other, [])
    return leads


def reached_from(leads, name):
    """Tell the names to which a name leads by ties, as the keys of a dict: itself where it is in a ring."""
    reached = {}
    left = list(leads[name])
    while left:
        one = left.pop()
        if one not in reached:
            reached[one] = True
            left.extend(leads[one])
    return reached


def rings_of(pairs):
    """Tell the rings of a list of ties: the lots of names of which each leads to each other."""
    leads = leads_of(pairs)
    reached = {name: reached_from(leads, name) for name in leads}
    lots = []
    for name in sorted(leads):
        lot = [other for other in sorted(reached[name]) if name in reached[other]]
        # a lot is told with the least of its names
        if name in reached[name] and lot[0] == name:
            lots.append(lot)
    return lots


def rings(hall):
    """Tell the rings of the hall's ties, rising lists, rising."""
    return rings_of(ties(hall))


def order(hall, name):
    """Tell the names whose bodies begin, in order, where a bare hall loads the name."""
    if not is_name(name):
        raise NoName("no name to be loaded")
    bare = bare_hall(hall, hall.finders)
    bare.run(f"load {name}")
    return [text.partition(" ")[2] for text in bare.log if text.startswith("begin ")]
