"""The duties of a program: what must follow from what, so that no claim of it is ever untrue."""

from outlineward.checks import numbers_of
from outlineward.claims import said, turned
from outlineward.errors import TooMany

MOST_WAYS = 16


class Walk:
    """A walk through a procedure's body, and the duties that were met so far."""

    def __init__(self, f, procs):
        self.f = f
        # All procedures of the program by their names.
        self.procs = procs
        self.met = []


def duties(program):
    """The duties (f, kind, path, k, straight, goal), procedure by procedure."""
    procs = procs_by_name(program)
    told = []
    for proc in program:
        told.extend(duties_of(proc, procs))
    return told


def procs_by_name(program):
    return {proc[1]: proc for proc in program}


def duties_of(proc, procs):
    """The duties of one procedure."""
    f, gives, body = proc[1], proc[5], proc[6]
    walk = Walk(f, procs)
    ways = walk_body(walk, body, [first_way(proc)], ())
    meet(walk, "give", (), ways, gives)
    return walk.met


def first_way(proc):
    """The straight rows ahead of a procedure's first statement."""
    params, needs = proc[2], proc[4]
    return [set_to_nought(x) for x in numbers_of(proc) if x not in params] + known(needs)


def set_to_nought(x):
    return ("set", x, ("is", ""), 0)


def known(claims):
    return [("know", claim) for claim in claims]


def behind_each(ways, rows):
    """The ways, with these rows behind each."""
    return [way + rows for way in ways]


def meet(walk, kind, path, ways, claims):
    """A duty for each way and each claim."""
    for way in ways:
        for k, claim in enumerate(claims):
            walk.met.append((walk.f, kind, path, k, list(way), claim))


def walk_body(walk, body, ways, around):
    """The ways behind the body; around is the path that its statements' numbers stand behind."""
    for k, statement in enumerate(body):
        ways = walk_statement(walk, statement, ways, around + (k,))
        if len(ways) > MOST_WAYS:
            raise TooMany(f"more than {MOST_WAYS} ways in {walk.f}")
    return ways


def walk_statement(walk, statement, ways, path):
    kind = statement[0]
    if kind == "claim":
        meet(walk, "claim", path, ways, statement[1:])
        return ways
    if kind == "if":
        return walk_if(walk, statement, ways, path)
    if kind == "while":
        return walk_while(walk, statement, ways, path)
    if kind == "call":
        return walk_call(walk, statement, ways, path)
    return behind_each(ways, [statement])


def walk_if(walk, statement, ways, path):
    least, body, other = statement[1:]
    first = walk_body(walk, body, behind_each(ways, known([least])), path + (0,))
    second = walk_body(walk, other, behind_each(ways, known([turned(least)])), path + (1,))
    return first + second


def walk_while(walk, statement, ways, path):
    least, keeps, body = statement[1:]
    meet(walk, "enter", path, ways, keeps)
    head = known(keeps)
    rounds = walk_body(walk, body, [head + known([least])], path + (0,))
    meet(walk, "keep", path, rounds, keeps)
    return [head + known([turned(least)])]


def walk_call(walk, statement, ways, path):
    x, f, args, rows = statement[1:]
    params, own_rows, needs, gives = walk.procs[f][2:6]
    names = dict(zip(own_rows, rows))
    handed = []
    for y, arg in zip(params, args):
        names[y] = f"{f}.{y}"
        handed.append(("set", names[y], ("is", arg), 0))
    ways = behind_each(ways, handed)
    meet(walk, "need", path, ways, [said(need, names) for need in needs])
    names["out"] = x
    told = known([said(give, names) for give in gives])
    return behind_each(ways, [("lose", r) for r in rows] + [("any", x)] + told)
