"""The book of a case: all that its straight rows and the denial of its goal say, as ties and clauses over sources."""

from outlineward.claims import turned
from outlineward.ties import turned_tie

OWN_PLACE = (("own", 0), 0)
OTHER_OWN_PLACE = (("own", 1), 0)


class Case:
    """What was gathered so far on the way through the straight rows."""

    def __init__(self):
        # What each number stands for by now, and which version each row is; names that lack are as at the beginning.
        self.numbers = {}
        self.versions = {}
        # The rows that are named anywhere, as a dict's keys.
        self.named = {}
        self.lost = []
        self.ties = []
        self.spots = []
        # Tuples (spot, version ahead, value, version behind).
        self.puts = []
        # Tuples (t, u, body) and (t, u, version) of what is known.
        self.eaches = []
        self.rises = []


def booked(rows, goal):
    """The book (ties, clauses) of the case, each sorted, each thing once."""
    case = gathered(rows, goal)
    found = version_clauses(case) + put_clauses(case) + each_clauses(case) + rise_clauses(case)
    return (each_once(case.ties), each_once(found))


def spots(rows, goal):
    """The spots of the case, sorted, each once."""
    return gathered(rows, goal).spots


def width(rows, goal):
    """How many unlike ones the spots and the upper ends of what is known are together."""
    case = gathered(rows, goal)
    ends = [known[1] for known in case.eaches + case.rises]
    return len(each_once(case.spots + ends))


def each_once(things):
    """The things sorted, each once; side by side, as sources may nest deeper than a key may."""
    told = []
    for thing in sorted(things):
        if not told or told[-1] != thing:
            told.append(thing)
    return told


def gathered(rows, goal):
    case = Case()
    for n, row in enumerate(rows):
        take_row(case, n, row)
    deny(case, goal)
    case.spots = each_once(case.spots)
    return case


def take_row(case, n, row):
    kind = row[0]
    if kind == "set":
        case.numbers[row[1]] = more_than(stands_for(case, row[2]), row[3])
    elif kind == "put":
        take_put(case, n, row)
    elif kind == "any":
        case.numbers[row[1]] = (("pick", n), 0)
    elif kind == "lose":
        case.named[row[1]] = True
        case.versions[row[1]] = ("lost", n)
        case.lost.append(("lost", n))
    else:
        know(case, row[1])


def take_put(case, n, row):
    r, place, a, c = row[1:]
    spot = spot_of(case, place)
    value = more_than(stands_for(case, a), c)
    ahead = version_of(case, r)
    behind = ("put", n)
    case.spots.append(spot)
    case.puts.append((spot, ahead, value, behind))
    case.ties.extend(alike(entry_of(behind, spot), value))
    case.versions[r] = behind


def know(case, claim):
    if claim[0] == "least":
        case.ties.append(least_tie(case, claim))
        return
    t, u = spot_of(case, claim[1]), spot_of(case, claim[2])
    case.spots.append(t)
    if claim[0] == "each":
        case.eaches.append((t, u, body_of(case, claim)))
    else:
        case.rises.append((t, u, version_of(case, claim[3])))


def deny(case, goal):
    if goal[0] == "least":
        case.ties.append(least_tie(case, turned(goal)))
        return
    t, u = spot_of(case, goal[1]), spot_of(case, goal[2])
    first = OWN_PLACE
    if goal[0] == "each":
        said = body_tie(body_of(case, goal), first)
        case.spots.append(first)
        case.ties.extend([at_most(t, first), at_most(first, u), turned_tie(said)])
        return
    second = OTHER_OWN_PLACE
    version = version_of(case, goal[3])
    less = at_most(more_than(entry_of(version, second), 1), entry_of(version, first))
    case.spots.extend([first, second])
    case.ties.extend([at_most(t, first), at_most(first, second), at_most(second, u), less])


def number_stands_for(case, x):
    if x == "":
        return (("nought",), 0)
    return case.numbers.get(x, (("start", x), 0))


def stands_for(case, term):
    """What the term stands for; where it reads a row, that spot is one of the case's."""
    if term[0] == "is":
        return number_stands_for(case, term[1])
    spot = spot_of(case, term[2])
    case.spots.append(spot)
    return entry_of(version_of(case, term[1]), spot)


def spot_of(case, place):
    x, d = place
    return more_than(number_stands_for(case, x), d)


def version_of(case, r):
    case.named[r] = True
    return case.versions.get(r, ("row", r))


def entry_of(version, spot):
    return (("entry", version, spot), 0)


def more_than(stood_for, d):
    source, more = stood_for
    return (source, more + d)


def at_most(one, other):
    """The tie that the one is at most the other."""
    return (one[0], other[0], other[1] - one[1])


def alike(one, other):
    return [at_most(one, other), at_most(other, one)]


def least_tie(case, least):
    a, b, c = least[1:]
    return at_most(more_than(stands_for(case, b), c), stands_for(case, a))


def body_of(case, claim):
    """What an each says of its places, its names exchanged for what they stand for here."""
    r, way, b, c = claim[3:]
    version = version_of(case, r)
    if b[0] == "row":
        return (version, way, ("row", version_of(case, b[1])), c)
    return (version, way, ("is", number_stands_for(case, b[1])), c)


def body_tie(body, spot):
    """What the body says of the spot."""
    version, way, b, c = body
    held = entry_of(version, spot)
    bound = b[1]
    if b[0] == "row":
        bound = entry_of(b[1], spot)
    if way == ">=":
        return at_most(more_than(bound, c), held)
    return at_most(held, more_than(bound, c))


def guarded(guards, ties):
    """The clauses of these ties; none where a guard over one source is untrue, such a one that is true left out."""
    kept = []
    for guard in guards:
        if guard[0] != guard[1]:
            kept.append(guard)
        elif guard[2] < 0:
            return []
    return [(tuple(kept), tie) for tie in ties]


def spot_pairs(case):
    """Each two unlike spots, in either order."""
    return [(s, z) for s in case.spots for z in case.spots if s != z]


def version_clauses(case):
    versions = [("row", r) for r in case.named] + case.lost
    told = []
    for s, z in spot_pairs(case):
        ties = [at_most(entry_of(version, s), entry_of(version, z)) for version in versions]
        told.extend(guarded([at_most(s, z), at_most(z, s)], ties))
    return told


def put_clauses(case):
    told = []
    for spot, ahead, value, behind in case.puts:
        for s in case.spots:
            if s != spot:
                new = entry_of(behind, s)
                stays = alike(new, entry_of(ahead, s))
                told.extend(guarded([at_most(s, spot), at_most(spot, s)], alike(new, value)))
                told.extend(guarded([at_most(s, more_than(spot, -1))], stays))
                told.extend(guarded([at_most(more_than(spot, 1), s)], stays))
    return told


def each_clauses(case):
    told = []
    for t, u, body in case.eaches:
        for s in case.spots:
            told.extend(guarded([at_most(t, s), at_most(s, u)], [body_tie(body, s)]))
    return told


def rise_clauses(case):
    told = []
    for t, u, version in case.rises:
        for s, z in spot_pairs(case):
            tie = at_most(entry_of(version, s), entry_of(version, z))
            told.extend(guarded([at_most(t, s), at_most(s, z), at_most(z, u)], [tie]))
    return told
