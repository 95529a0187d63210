"""A second telling of points 11 to 18, by generators, each of which stands still where a row is due or a hand waits.

It shares with the program only what is tested by itself: names, bodies, stores, lists, forms and finders.
"""

from loadhall.bodies import is_number, read_body, read_rows
from loadhall.errors import NoBody, NoName
from loadhall.finders import Along
from loadhall.forms import Forms
from loadhall.names import elder_of, elders, last_of, near_name
from loadhall.stores import Lists, Store

DUE = "due"


class Refusal(Exception):
    """A refused row: the name of the error, its fields in order, and the trail from the innermost row out."""

    def __init__(self, word, *fields):
        Exception.__init__(self, word, fields)
        self.told = (word, *fields)
        self.trail = []


class Met(Exception):
    """A look met a waiting module."""

    def __init__(self, module):
        Exception.__init__(self)
        self.module = module


class Thing:
    """A module."""

    def __init__(self, name, state, places=None):
        self.name, self.state, self.places = name, state, places
        self.names, self.sums, self.shown, self.doer = {}, {}, None, None

    def __str__(self):
        return f"<{self.name}>"


class Mover:
    """A hand."""

    def __init__(self, name):
        self.name = name
        self.own = Thing(name, "whole")
        self.going = None
        self.waits = None
        self.begun = 0
        self.others = []


class Model:
    """What a hall tells, of the same history."""

    def __init__(self, path=(), check="stamp"):
        self.clock, self.path = 0, path
        self.lists, self.forms = Lists(), Forms(check=check)
        self.finders = (Along(),)
        self.stores = {part: Store(part) for part in path}
        self.table, self.movers, self.log = {}, {}, []

    def store(self, part):
        return self.stores.setdefault(part, Store(part))

    # sums and looks

    def lacking(self, worth, part):
        if isinstance(worth, int):
            return Refusal("Lacking", "", part, False)
        return Refusal("Lacking", worth.name, part, worth.state == "half")

    def look(self, worth, part, within):
        if isinstance(worth, int):
            raise self.lacking(worth, part)
        if worth.state == "waiting":
            raise Met(worth)
        if part in worth.names:
            return worth.names[part]
        if part in worth.sums:
            if within == 4:
                raise Refusal("TooDeep", worth.name)
            return self.sum(worth, worth.sums[part], within + 1)
        raise self.lacking(worth, part)

    def sum(self, module, text, within=0):
        found = []
        for term in text.split("+"):
            if is_number(term):
                found.append(int(term))
                continue
            parts = term.split(".")
            if parts[0] not in module.names:
                raise self.lacking(module, parts[0])
            worth = module.names[parts[0]]
            for part in parts[1:]:
                worth = self.look(worth, part, within)
            found.append(worth)
        if len(found) == 1:
            return found[0]
        if [one for one in found if isinstance(one, Thing)]:
            raise Refusal("Failed", "sum")
        if len(str(abs(sum(found)))) > 18:
            raise Refusal("Failed", "sum")
        return sum(found)

    def looking(self, mover, ask):
        """Ask till no look meets a waiting module."""
        while True:
            try:
                return ask()
            except Met as met:
                module = met.module
            yield from self.wake(mover, module)

    # wanting

    def waits_for(self, mover, name):
        """Tell the hands for which one that waits at the name waits, and so on."""
        found = []
        while name in self.table and self.table[name].doer is not None:
            doer = self.table[name].doer
            if doer in found:
                break
            found.append(doer)
            if doer == mover.name or self.movers[doer].waits is None:
                break
            name = self.movers[doer].waits
        return found

    def want(self, mover, name):
        while True:
            if name in self.table:
                chain = self.waits_for(mover, name)
                if not chain or mover.name in chain:
                    return self.table[name]
                yield ("wait", name, chain[0])
                continue
            if name in mover.others:
                raise Refusal("TooDeep", name)
            above = None
            if elder_of(name):
                above = yield from self.want(mover, elder_of(name))
                if above.state == "waiting":
                    yield from self.wake(mover, above)
                if name in self.table:
                    continue
                if above.places is None:
                    raise Refusal("NotPack", name)
            return (yield from self.find(mover, name, self.path if above is None else above.places))

    def answer(self, name, places):
        for finder in self.finders:
            told = finder.find(name, places, self)
            if told is not None:
                if told[0] == "barred":
                    break
                return told
        raise Refusal("NotFound", name)

    def find(self, mover, name, places):
        word, where, inside = self.answer(name, places)
        if word == "other":
            if len(where.split(".")) > 4:
                raise Refusal("NotFound", name)
            mover.others.append(name)
            try:
                module = yield from self.want(mover, where)
            finally:
                mover.others.remove(name)
            self.table[name] = module
            return module
        rows = self.rows(mover, name, word, where)
        module = Thing(name, "half", inside)
        self.table[name] = module
        yield from self.body(mover, module, rows, "load")
        return module

    def rows(self, mover, name, word, where):
        try:
            rows = []
            if word == "body":
                rows = self.forms.form(self.store(where), name)
            elif word == "built":
                rows = read_body(where)
        except NoBody as refusal:
            raise Refusal("NoBody", refusal.row) from None
        if mover.begun == 200:
            raise Refusal("TooDeep", name)
        return rows

    def anew(self, mover, module, how):
        elder = elder_of(module.name)
        if elder is None:
            places = self.path
        elif elder in self.table and self.table[elder].places is not None:
            places = self.table[elder].places
        else:
            raise Refusal("NotFound", module.name)
        word, where, inside = self.answer(module.name, places)
        if word == "other":
            raise Refusal("NotFound", module.name)
        rows = self.rows(mover, module.name, word, where)
        module.state, module.places = "half", inside
        yield from self.body(mover, module, rows, how)

    def wake(self, mover, module):
        return self.anew(mover, module, "wake")

    # bodies

    def body(self, mover, module, rows, how):
        mover.begun += 1
        module.doer = mover.name
        self.log.append("begin " + module.name)
        try:
            yield from self.do(mover, module, rows)
            if self.table.get(module.name) is not module:
                raise Refusal("Lost", module.name)
        except Refusal:
            self.log.append("refuse " + module.name)
            module.doer = None
            if how == "load":
                self.table = {name: one for name, one in self.table.items() if one is not module}
            elif how == "again":
                module.state = "whole"
            else:
                module.__init__(module.name, "waiting")
            raise
        module.state, module.doer = "whole", None
        self.log.append("end " + module.name)
        elder = elder_of(module.name)
        if elder and elder in self.table:
            self.table[elder].names[last_of(module.name)] = module

    def do(self, mover, module, rows):
        for at, row in enumerate(rows):
            yield DUE
            if module is mover.own:
                mover.begun = 0
            try:
                yield from self.row(mover, module, row)
            except Refusal as refusal:
                refusal.trail.append((module.name, at))
                raise

    def row(self, mover, module, row):
        word = row[0]
        if word in ("set", "note"):
            worth = yield from self.looking(mover, lambda: self.sum(module, row[-1]))
            if word == "set":
                module.names[row[1]] = worth
            else:
                self.log.append(f"note {module.name} {worth}")
        elif word == "del":
            if row[1] not in module.names:
                raise self.lacking(module, row[1])
            del module.names[row[1]]
        elif word == "fail":
            raise Refusal("Failed", row[1])
        elif word == "show":
            module.shown = row[1:]
        elif word == "when":
            module.sums[row[1]] = row[2]
        elif word == "load":
            yield from self.load(mover, module, row)
        elif word == "may":
            try:
                yield from self.load(mover, module, row)
            except Refusal as refusal:
                if refusal.told[0] == "Stuck":
                    raise
                module.names[row[3]] = 0
        elif word == "later":
            yield from self.later(mover, module, row)
        elif word == "from":
            yield from self.take(mover, module, row)
        elif word == "again":
            yield from self.again(mover, row[1])
        else:
            assert word == "drop"
            if row[1] not in self.table:
                raise Refusal("NotFound", row[1])
            del self.table[row[1]]

    def load(self, mover, module, row):
        name = row[1]
        yield from self.want(mover, name)
        first = name.split(".")[0]
        if len(row) == 2:
            if first not in self.table:
                raise Refusal("Lost", first)
            module.names[first] = self.table[first]
        else:
            module.names[row[3]] = yield from self.looking(mover, lambda: self.walk(name))

    def walk(self, name):
        sofar, *beyond = elders(name)
        if sofar not in self.table:
            raise Refusal("Lost", sofar)
        worth = self.table[sofar]
        for one in beyond:
            part = last_of(one)
            if isinstance(worth, Thing) and worth.state == "waiting":
                raise Met(worth)
            if isinstance(worth, Thing) and (part in worth.names or part in worth.sums):
                worth = self.look(worth, part, 0)
            elif one in self.table:
                worth = self.table[one]
            else:
                raise self.lacking(worth, part)
        return worth

    def later(self, mover, module, row):
        name = row[1]
        if name in self.table:
            yield from self.load(mover, module, row)
            return
        if name in mover.others:
            raise Refusal("TooDeep", name)
        above = None
        if elder_of(name):
            above = yield from self.want(mover, elder_of(name))
            if above.state == "waiting":
                yield from self.wake(mover, above)
            if name in self.table:
                yield from self.load(mover, module, row)
                return
            if above.places is None:
                raise Refusal("NotPack", name)
        if self.answer(name, self.path if above is None else above.places)[0] == "other":
            yield from self.load(mover, module, row)
            return
        waiting = Thing(name, "waiting")
        self.table[name] = waiting
        if above is not None:
            above.names[last_of(name)] = waiting
        module.names[row[3]] = waiting

    def take(self, mover, module, row):
        try:
            name = near_name(row[1], base=module.name, pack=module.places is not None)
        except NoName:
            raise Refusal("NotFound", row[1]) from None
        source = yield from self.want(mover, name)
        if source.state == "waiting":
            yield from self.wake(mover, source)
        if row[3:] == ("all",):
            for part in source.shown if source.shown is not None else sorted(source.names):
                module.names[part] = yield from self.taken(mover, name, source, part)
        else:
            module.names[row[-1]] = yield from self.taken(mover, name, source, row[3])

    def taken(self, mover, name, source, part):
        def ask():
            if source.state == "waiting":
                raise Met(source)
            if part in source.names or part in source.sums:
                return self.look(source, part, 0)
            return None
        worth = yield from self.looking(mover, ask)
        if worth is not None:
            return worth
        if source.places is None or name.count(".") == 3:
            raise self.lacking(source, part)
        try:
            return (yield from self.want(mover, f"{name}.{part}"))
        except Refusal as refusal:
            if refusal.told != ("NotFound", f"{name}.{part}"):
                raise
        raise self.lacking(source, part)

    def again(self, mover, name):
        module = self.table.get(name)
        if module is None or module.name != name or module.state == "waiting":
            raise Refusal("NotFound", name)
        if module.state == "half":
            yield from self.want(mover, name)
        else:
            yield from self.anew(mover, module, "again")

    # hands

    def begin(self, hand, text):
        mover = self.movers.get(hand) or Mover(hand)
        rows = read_rows(text, 40)
        self.movers[hand] = mover
        self.start(mover, self.do(mover, mover.own, rows))

    def start(self, mover, going):
        mover.going, mover.waits = going, None
        self.resume(mover, lambda: next(going))

    def resume(self, mover, ask):
        """Go on till a row is due, or the hand waits, or nothing is left; tell for whom it waits."""
        mover.waits = None
        try:
            told = ask()
        except StopIteration:
            mover.going = None
            return None
        except Refusal:
            mover.going = None
            raise
        if told != DUE:
            mover.waits = told[1]
            return told[2]
        return None

    def step(self, hand):
        mover = self.movers[hand]
        if mover.going is None:
            return "ended"
        self.resume(mover, lambda: next(mover.going))
        if mover.waits is not None:
            return "waits"
        return "ended" if mover.going is None else "went"

    def all_steps(self, mover):
        while mover.going is not None:
            hand = self.resume(mover, lambda: next(mover.going))
            while mover.waits is not None:
                hand = self.resume(mover, lambda: mover.going.throw(Refusal("Stuck", hand)))

    def run(self, text, hand="main"):
        self.begin(hand, text)
        self.all_steps(self.movers[hand])
        return sorted(self.movers[hand].own.names)

    def worth(self, name, part):
        if name not in self.table:
            raise Refusal("NotFound", name)
        module, mover = self.table[name], Mover("")
        found = []

        def one_row():
            yield DUE
            try:
                found.append((yield from self.looking(mover, lambda: self.look(module, part, 0))))
            except Refusal as refusal:
                refusal.trail.append(("", 0))
                raise

        self.start(mover, one_row())
        self.all_steps(mover)
        return found[0] if isinstance(found[0], int) else str(found[0])

    def told(self):
        return sorted(f"{name} {module.state}" for name, module in self.table.items())

    def names(self, name, hand=False):
        module = self.movers[name].own if hand else self.table[name]
        return sorted(f"{part} = {worth}" for part, worth in module.names.items())

    def hands(self):
        return sorted(name for name, mover in self.movers.items() if mover.going is not None)
