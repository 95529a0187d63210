"""Loading anew: which modules are behind the bodies that lie, and in what order they are to be loaded again."""

from loadhall.errors import TooDeep
from loadhall.lying import Lying
from loadhall.modules import WHOLE


def stands(hall, module):
    """Tell whether the table has a module under its own name."""
    return hall.table.get(module.name) == module


def is_changed(hall, lying, name):
    """Tell whether the body or the places of a module aren't those that lie, or can't be read any more."""
    module = hall.table[name]
    return module.rows != lying.rows_under(name) or module.places != lying.places_of(name)


def may_lag(hall, lying, name):
    """Tell whether a name of the table is that of a whole module, and lies."""
    module = hall.table[name]
    return module.name == name and module.state == WHOLE and lying.lies(name)


def table_wants(hall, lying, name):
    """Tell the names of the modules that the table has for the wants of a body, where these stand under them."""
    wanted = [hall.table[want] for want in lying.wants(name) if want in hall.table]
    return [module.name for module in wanted if stands(hall, module)]


def lagging_by(hall, lying):
    """Tell the rising list of the names of the modules that are behind."""
    left = [name for name in sorted(hall.table) if may_lag(hall, lying, name)]
    behind = [name for name in left if is_changed(hall, lying, name)]
    more = behind
    while more:
        left = [name for name in left if name not in more]
        more = [name for name in left if any([want in behind for want in table_wants(hall, lying, name)])]
        behind = behind + more
    return sorted(behind)


def lagging(hall):
    """Tell the rising list of the names of the modules that are behind."""
    return lagging_by(hall, Lying(hall))


def leads_to(hall, lying, name):
    """Tell the names of modules to which the wants of a name lead, over wants that aren't in the table."""
    found = {}
    seen = {}
    left = lying.wants(name)
    while left:
        want = left.pop()
        if want in seen:
            continue
        seen[want] = True
        if want in hall.table:
            module = hall.table[want]
            if stands(hall, module):
                found[module.name] = True
        elif lying.lies(want):
            left.extend(lying.wants(want))
    return found


def anew(hall):
    """Tell the names of the modules that are behind, each behind those to which its wants lead, the least first."""
    lying = Lying(hall)
    left = lagging_by(hall, lying)
    leads = {name: leads_to(hall, lying, name) for name in left}
    found = []
    while left:
        ready = [name for name in left if not any([other in leads[name] for other in left])]
        if not ready:
            raise TooDeep(left[0])
        found.append(ready[0])
        left = [name for name in left if name != ready[0]]
    return found


def renew(hall, *, hand="main"):
    """Let a hand load again what is behind, in order, and tell it."""
    names = anew(hall)
    hall.run("\n".join([f"again {name}" for name in names]), hand=hand)
    return names
