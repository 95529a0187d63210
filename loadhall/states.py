"""The state of a hall as plain values, tuples within tuples, and how a hall is brought to it.

Modules are told by their numbers, in an order that hangs on nothing but what the hall is: so halls that are the same
have the same state. Finders, and the stores themselves, are kept by whoever keeps the state.
"""

from loadhall.modules import Module
from loadhall.stores import Store
from loadhall.tasks import Doing, Hand, Row, Want


def task_modules(task):
    """Tell the modules that a task has, or None where one might stand."""
    if isinstance(task, Doing):
        return [task.module]
    return [task.source if isinstance(task, Row) else task.elder]


def first_modules(hall):
    """Tell the modules that the table and the hands have, some more than once, or None among them."""
    found = [hall.table[name] for name in sorted(hall.table)]
    for name in sorted(hall.by_hand):
        hand = hall.by_hand[name]
        found.append(hand.module)
        for task in hand.tasks:
            found.extend(task_modules(task))
    return found


def number_modules(hall):
    """Tell the numbers of all modules to which the hall leads."""
    numbers = {}
    left = list(reversed(first_modules(hall)))
    # modules may have one another as worths, so they are gone through one by one
    while left:
        module = left.pop()
        if module is None or module in numbers:
            continue
        numbers[module] = len(numbers)
        worths = [module.worths[part] for part in sorted(module.worths)]
        left.extend([worth for worth in reversed(worths) if isinstance(worth, Module)])
    return numbers


def state_of_worth(worth, numbers):
    """Tell a whole number as itself, a module as the tuple of its number."""
    return (numbers[worth],) if isinstance(worth, Module) else worth


def state_of_module(module, numbers):
    """Tell a module as a tuple."""
    worths = tuple([(part, state_of_worth(module.worths[part], numbers)) for part in sorted(module.worths)])
    sums = tuple([(part, module.sums[part]) for part in sorted(module.sums)])
    return (module.name, module.state, module.places, worths, module.shown, sums, module.rows, module.doer)


def state_of_task(task, numbers):
    """Tell a task as a tuple; of a row not what the body beneath it tells."""
    if isinstance(task, Doing):
        return ("doing", numbers[task.module], task.rows, task.how, task.at)
    if isinstance(task, Row):
        source = None if task.source is None else numbers[task.source]
        return ("row", task.stage, task.name, source, task.parts, task.taken)
    elder = None if task.elder is None else numbers[task.elder]
    return ("want", task.name, task.late, task.stage, elder)


def state_of_hand(hand, numbers):
    """Tell a hand as a tuple."""
    tasks = tuple([state_of_task(task, numbers) for task in hand.tasks])
    return (hand.name, numbers[hand.module], tasks, hand.begun, hand.waits_at)


def state_of_store(store):
    """Tell a store as a tuple."""
    return (store.name, store.changed, tuple([(name, store.entries[name]) for name in sorted(store.entries)]))


def state_of_kept(hall):
    """Tell what the hall's lists and forms keep."""
    kept = hall.lists.by_store
    forms = hall.forms
    lists = tuple([(part, kept[part]) for part in sorted(kept)])
    places = tuple([(place, forms.by_place[place]) for place in sorted(forms.by_place)])
    return (lists, forms.check, forms.made, places)


def state_of(hall):
    """Tell all that a hall is, but for its finders and its marks."""
    numbers = number_modules(hall)
    stores = tuple([state_of_store(hall.stores[part]) for part in sorted(hall.stores)])
    table = tuple([(name, numbers[hall.table[name]]) for name in sorted(hall.table)])
    modules = tuple([state_of_module(module, numbers) for module in numbers])
    hands = tuple([state_of_hand(hall.by_hand[name], numbers) for name in sorted(hall.by_hand)])
    return (hall.clock, hall.path, hall.log, stores, state_of_kept(hall), table, modules, hands)


def module_by(state):
    """Make a module of its state, as yet without its worths."""
    module = Module(state[0], state[1], state[2])
    module.shown = state[4]
    module.sums = dict(state[5])
    module.rows = state[6]
    module.doer = state[7]
    return module


def modules_by(states):
    """Make the modules of their states."""
    modules = [module_by(state) for state in states]
    for module, state in zip(modules, states):
        for part, worth in state[3]:
            module.worths[part] = modules[worth[0]] if isinstance(worth, tuple) else worth
    return modules


def row_by(state, doing, modules):
    """Make the row of a body that is being done of its state."""
    row = Row(doing)
    _, row.stage, row.name, source, row.parts, row.taken = state
    row.source = None if source is None else modules[source]
    return row


def want_by(state, modules):
    """Make a want of its state."""
    _, name, late, stage, elder = state
    want = Want(name, late)
    want.stage = stage
    want.elder = None if elder is None else modules[elder]
    return want


def doing_by(state, modules):
    """Make a body that is done of its state."""
    _, module, rows, how, at = state
    doing = Doing(modules[module], rows, how)
    doing.at = at
    return doing


def hand_by(state, modules):
    """Make a hand of its state."""
    name, module, states, begun, waits_at = state
    hand = Hand(name)
    hand.module = modules[module]
    hand.begun = begun
    hand.waits_at = waits_at
    for one in states:
        if one[0] == "doing":
            hand.tasks.append(doing_by(one, modules))
        elif one[0] == "row":
            hand.tasks.append(row_by(one, hand.tasks[-1], modules))
        else:
            hand.tasks.append(want_by(one, modules))
    return hand


def bring_stores(hall, states, stores):
    """Bring the hall's stores, of these by their names, or else new ones, to their states."""
    hall.stores = {}
    for part, changed, entries in states:
        store = stores[part] if part in stores else Store(part)
        store.changed = changed
        store.entries = dict(entries)
        hall.stores[part] = store


def bring_kept(hall, state):
    """Bring the hall's lists and forms to their state."""
    lists = hall.lists
    forms = hall.forms
    lists.by_store = dict(state[0])
    forms.check = state[1]
    forms.made = state[2]
    forms.by_place = {place: kept for place, kept in state[3]}
    forms.kept = len(forms.by_place)


def bring(hall, state, stores):
    """Bring a hall to a state, but for its finders and its marks, with these stores by their names."""
    hall.clock, hall.path, hall.log = state[0], state[1], state[2]
    bring_stores(hall, state[3], stores)
    bring_kept(hall, state[4])
    modules = modules_by(state[6])
    hall.table = {name: modules[number] for name, number in state[5]}
    hall.by_hand = {hand[0]: hand_by(hand, modules) for hand in state[7]}
