"""Papers: what anybody can add up to see that a case is kept."""

from outlineward.ties import turned_tie


def paper_holds(book, paper):
    """Whether the paper holds for the book."""
    held = {key_of(tie): True for tie in book[0]}
    needed = guards_by_tie(book[1])
    # Papers may be deeper than calls may go, so what is still to be looked at waits in a list.
    waiting = [(paper, [])]
    while waiting:
        inner, way = waiting.pop()
        if inner[0] == "split":
            tie, yes, no = inner[1:]
            waiting.append((yes, way + [key_of(tie)]))
            waiting.append((no, way + [key_of(turned_tie(tie))]))
        elif not ring_holds(inner[1], held, way, needed):
            return False
    return True


def key_of(tie):
    """A text of the tie's own: sources may nest deeper than a key may."""
    return repr(tie)


def guards_by_tie(clauses):
    """For each clause's tie the keys of the guards of each clause that has it."""
    told = {}
    for guards, tie in clauses:
        told.setdefault(key_of(tie), []).append([key_of(guard) for guard in guards])
    return told


def ring_holds(ties, held, way, needed):
    return closes(ties) and sum([tie[2] for tie in ties]) < 0 and all([at_hand(tie, held, way, needed) for tie in ties])


def closes(ties):
    """Whether there is a tie at all, and the y of each is the x of the next, of the last that of the first."""
    if not ties:
        return False
    return [tie[1] for tie in ties] == [tie[0] for tie in ties[1:] + ties[:1]]


def at_hand(tie, held, way, needed):
    """Whether the tie holds at the leaf, or is the tie of a clause all of whose guards hold there."""
    key = key_of(tie)
    if key in held or key in way:
        return True
    for guards in needed.get(key, []):
        if all([guard in held or guard in way for guard in guards]):
            return True
    return False
