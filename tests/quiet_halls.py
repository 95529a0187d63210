"""Halls by chance (the same for the same chance), of whose bodies many are quiet."""

from loadhall.halls import Hall
from loadhall.names import elders


def chance_row(chance, names, kinds):
    """A row by chance of one of these kinds, over these names."""
    kind, name = chance.choice(kinds), chance.choice(names)
    part, other = chance.choice("pqkab"), chance.choice("pqkab")
    path = ".".join([part, other, chance.choice("pqab")][:chance.randrange(1, 4)])
    return {
        "set": f"set {part} {chance.choice((str(chance.randrange(9)), path, path + '+1'))}", "note": f"note {path}",
        "show": f"show {part}", "load": f"load {name}", "load as": f"load {name} as {part}",
        "from": f"from {name} take {part}", "from as": f"from {name} take {part} as {other}",
    }[kind]


def quiet_hall(chance):
    """A hall of packs and bodies by chance, of which many are quiet."""
    names = sorted({elder for _ in range(chance.randrange(1, 5)) for elder in elders(
        ".".join(chance.choice("abc") for _ in range(chance.choice((1, 1, 2, 2, 3)))))})
    hall = Hall(path=("s",))
    for at, name in enumerate(names):
        known = [one for one in names[:at] if not name.startswith(one + ".")]
        kinds = ("set", "set", "show", "load", "load as", "from", "from as") if known else ("set", "show")
        body = [f"set {part} {chance.randrange(9)}" for part in "pqk"[:chance.randrange(4)]]
        body += [chance_row(chance, known or ["z"], kinds) for _ in range(chance.randrange(4))]
        hall.put("s", name, "\n".join(body), pack=any(one.startswith(name + ".") for one in names))
    return hall
