"""A book searched: for amounts of its sources by which all of it holds, or for a paper that there are none."""

from outlineward.tally import Tally, breaks, give_back, take_in
from outlineward.ties import turned_tie

NOUGHT = ("nought",)


class Numbering:
    """The sources that were met so far, each with its number."""

    def __init__(self):
        self.sources = []
        # By texts: sources may nest deeper than a key may.
        self.places = {}


class Search:
    """What holds on the way to where the search is, over numbered sources."""

    def __init__(self, count, clauses):
        self.tally = Tally(count)
        self.clauses = clauses
        # How many guards of each clause don't hold yet, and the numbers of the clauses that hang on each guard.
        self.lacking = [len(guards) for guards, tie in clauses]
        self.hanging = {}
        for n, (guards, tie) in enumerate(clauses):
            for guard in guards:
                self.hanging.setdefault(guard, []).append(n)
        # For each tie that holds here the splits that it hangs on, a bit for each; none of the book's own.
        self.held = {}


def searched(book):
    """("amounts", a list of tuples (source, amount)), nought amounting to 0; or ("paper", paper)."""
    numbering = Numbering()
    nought = number_of(numbering, NOUGHT)
    ties = [numbered(numbering, tie) for tie in book[0]]
    clauses = []
    for guards, tie in book[1]:
        clauses.append((tuple([numbered(numbering, guard) for guard in guards]), numbered(numbering, tie)))
    search = Search(len(numbering.sources), clauses)
    found = begun(search, ties)
    if found is not None:
        return ("paper", named_paper(found[0], numbering.sources))
    amounts = search.tally.amounts
    return ("amounts", [(source, amounts[n] - amounts[nought]) for n, source in enumerate(numbering.sources)])


def number_of(numbering, source):
    key = repr(source)
    if key not in numbering.places:
        numbering.places[key] = len(numbering.sources)
        numbering.sources.append(source)
    return numbering.places[key]


def numbered(numbering, tie):
    x, y, c = tie
    return (number_of(numbering, x), number_of(numbering, y), c)


def begun(search, ties):
    """What the search tells from the book's own ties on."""
    free = [n for n, lacking in enumerate(search.lacking) if lacking == 0]
    ring = heed(search, free)
    for tie in ties:
        if ring is None:
            ring = hold(search, tie, 0)
    if ring is not None:
        return closed(ring)
    return gone_on(search, 0)


def gone_on(search, level):
    """None, the tally's amounts then being those sought; or (paper, bits of the splits that it hangs on)."""
    guard = open_guard(search)
    if guard is None:
        return None
    many = len(search.tally.taken)
    amounts = list(search.tally.amounts)
    bit = 1 << level
    yes = split_off(search, guard, level)
    # A paper that doesn't hang on the split is as good without it.
    if yes is None or yes[1] & bit == 0:
        return yes
    give_back(search.tally, many, amounts)
    no = split_off(search, turned_tie(guard), level)
    if no is None or no[1] & bit == 0:
        return no
    return (("split", guard, yes[0], no[0]), (yes[1] | no[1]) - bit)


def split_off(search, tie, level):
    """What the search tells where the tie holds, too."""
    ring = hold(search, tie, 1 << level)
    if ring is None:
        found = gone_on(search, level + 1)
    else:
        found = closed(ring)
    release(search, tie)
    return found


def hold(search, tie, bits):
    """Takes in the tie and those of all clauses that now have no guard lacking; the ring, if there is one."""
    search.held[tie] = bits
    full = []
    for n in search.hanging.get(tie, []):
        search.lacking[n] -= 1
        if search.lacking[n] == 0:
            full.append(n)
    ring = take_in(search.tally, tie, bits)
    if ring is not None:
        return ring
    return heed(search, full)


def release(search, tie):
    search.held.pop(tie)
    for n in search.hanging.get(tie, []):
        search.lacking[n] += 1


def heed(search, full):
    for n in full:
        guards, tie = search.clauses[n]
        ring = take_in(search.tally, tie, bits_of(search, guards))
        if ring is not None:
            return ring
    return None


def bits_of(search, guards):
    bits = 0
    for guard in guards:
        bits = bits | search.held[guard]
    return bits


def closed(ring):
    bits = 0
    for tie, why in ring:
        bits = bits | why
    return (("ring", [tie for tie, why in ring]), bits)


def open_guard(search):
    """A guard that doesn't hold yet, of a clause that the amounts break; None where they break none."""
    best = None
    amounts = search.tally.amounts
    for n, (guards, tie) in enumerate(search.clauses):
        if breaks(tie, amounts) and not any([breaks(guard, amounts) for guard in guards]):
            if best is None or search.lacking[n] < search.lacking[best]:
                best = n
    if best is None:
        return None
    return [guard for guard in search.clauses[best][0] if guard not in search.held][0]


def named_paper(paper, sources):
    if paper[0] == "ring":
        return ("ring", [named(tie, sources) for tie in paper[1]])
    tie, yes, no = paper[1:]
    return ("split", named(tie, sources), named_paper(yes, sources), named_paper(no, sources))


def named(tie, sources):
    x, y, c = tie
    return (sources[x], sources[y], c)
