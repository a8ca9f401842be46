"""Runs found that end with an untrue claim, within so many turns."""

from outlineward.checks import numbers_of
from outlineward.claims import BARE_ROW, place_said, said, term_said, turned
from outlineward.deciding import decided
from outlineward.duties import MOST_WAYS, first_way, known, procs_by_name, set_to_nought
from outlineward.errors import TooMany
from outlineward.running import MOST_DEEP
from outlineward.steps import steps_of


class Finding:
    """A finding as far as it has come: the cases that were come to, in order, and how many ways have ended."""

    def __init__(self, program, most):
        self.procs = procs_by_name(program)
        self.steps = {proc[1]: steps_of(proc) for proc in program}
        self.most = most
        self.cases = []
        self.ends = 0


class Scene:
    """A procedure that is gone through; names tells what its numbers and rows are called in the straight rows."""

    def __init__(self, proc, names, told_to):
        self.proc = proc
        self.names = names
        # The number, so called, that becomes its out; None of the first procedure.
        self.told_to = told_to


class Way:
    """A way that goes on: the procedures gone through, the innermost last, and the step of each that is next."""

    def __init__(self, scenes, ats, straight, used):
        self.scenes = scenes
        self.ats = ats
        self.straight = straight
        self.used = used


def reached(program, f, most):
    """("run", numbers, rows, inputs), a run that ends with an untrue claim, or ("none", n), n cases decided."""
    finding = Finding(program, most)
    proc = finding.procs[f]
    go_all_ways(finding, proc)
    for straight, claim in finding.cases:
        word, told = decided(straight, claim)
        if word == "stand":
            return run_from(proc, told)
    return ("none", len(finding.cases))


def run_from(proc, start):
    # The straight rows lose nothing, so the picks are the inputs.
    numbers, rows, picks = start
    params, own_rows = proc[2:4]
    return ("run", [numbers.get(y, 0) for y in params], [rows.get(r, BARE_ROW) for r in own_rows], picks)


def go_all_ways(finding, proc):
    """Gathers all cases, the ways gone one behind the other, each to its end."""
    names = {name: name for name in numbers_of(proc) + list(proc[3])}
    waiting = [Way([Scene(proc, names, None)], [0], first_way(proc), 0)]
    while waiting:
        further = go_on(finding, waiting.pop())
        if not further:
            finding.ends += 1
            if finding.ends > MOST_WAYS:
                raise TooMany(f"more than {MOST_WAYS} ways to an end")
        waiting.extend(further)


def go_on(finding, way):
    """Goes one step; the ways that go on from there, the one that goes first last; none at an end."""
    scene = way.scenes[-1]
    steps = finding.steps[scene.proc[1]]
    if way.ats[-1] == len(steps):
        return come_back(finding, way)
    step = steps[way.ats[-1]]
    if step[0] == "go":
        way.ats[-1] = step[1]
        return [way]
    if way.used == finding.most:
        return []
    way.used += 1
    if step[0] == "ask":
        return part(finding, way, step)
    way.ats[-1] += 1
    if step[0] == "do":
        return do(finding, way, step[1])
    return [way]


def come_to(finding, way, claims, names):
    """A case for each of the claims, said of the straight rows' names."""
    for claim in claims:
        finding.cases.append((list(way.straight), said(claim, names)))


def come_back(finding, way):
    """The end of a procedure."""
    scene = way.scenes.pop()
    way.ats.pop()
    come_to(finding, way, scene.proc[5], scene.names)
    if scene.told_to is None:
        return []
    way.straight.append(("set", scene.told_to, ("is", scene.names["out"]), 0))
    return [way]


def part(finding, way, step):
    least, claims, kind, path, yes, no = step[1:]
    names = way.scenes[-1].names
    come_to(finding, way, claims, names)
    told = said(least, names)
    return [parted(way, turned(told), no), parted(way, told, yes)]


def parted(way, least, at):
    """The way on which the least is true, from that step on."""
    return Way(list(way.scenes), way.ats[:-1] + [at], way.straight + known([least]), way.used)


def do(finding, way, statement):
    kind = statement[0]
    names = way.scenes[-1].names
    if kind == "call":
        return call(finding, way, statement)
    if kind == "claim":
        come_to(finding, way, statement[1:], names)
    elif kind == "any":
        way.straight.append(("any", names[statement[1]]))
    elif kind == "set":
        x, a, c = statement[1:]
        way.straight.append(("set", names[x], term_said(a, names), c))
    else:
        r, place, a, c = statement[1:]
        way.straight.append(("put", names[r], place_said(place, names), term_said(a, names), c))
    return [way]


def call(finding, way, statement):
    x, f, args, rows = statement[1:]
    proc = finding.procs[f]
    caller = way.scenes[-1]
    deep = len(way.scenes)
    # What is called anew so deep sets all of its numbers first, so a name for each depth keeps them apart.
    names = {y: f"{deep}.{y}" for y in numbers_of(proc)}
    names.update({own: caller.names[r] for own, r in zip(proc[3], rows)})
    way.straight.extend([("set", names[y], ("is", caller.names[arg]), 0) for y, arg in zip(proc[2], args)])
    come_to(finding, way, proc[4], names)
    if deep > MOST_DEEP:
        return []
    way.straight.extend([set_to_nought(names[y]) for y in numbers_of(proc) if y not in proc[2]])
    way.scenes.append(Scene(proc, names, caller.names[x]))
    way.ats.append(0)
    return [way]
