"""Ties over numbered unknowns taken in one by one, with amounts by which all that were taken in hold."""


class Tally:
    """What each unknown amounts to, and the ties that were taken in."""

    def __init__(self, count):
        self.amounts = [0 for unknown in range(count)]
        # For each unknown the ties that bound another one by it: tuples (tie, why), why being the taker's own affair.
        self.bounds = [[] for unknown in range(count)]
        # The unknown under which each tie was kept, in the order in which they were taken in.
        self.taken = []


def breaks(tie, amounts):
    """Whether the tie doesn't hold by these amounts."""
    x, y, c = tie
    return amounts[x] > amounts[y] + c


def take_in(tally, tie, why):
    """None, the amounts lowered so that all ties hold; or a ring of tuples (tie, why) whose c sum to below nought.

    Behind a ring the amounts are of no use any more.
    """
    x, y, c = tie
    tally.bounds[y].append((tie, why))
    tally.taken.append(y)
    if not breaks(tie, tally.amounts):
        return None
    if x == y:
        return [(tie, why)]
    tally.amounts[x] = tally.amounts[y] + c
    return lower_behind(tally, y, {x: (tie, why)})


def lower_behind(tally, first, reasons):
    """Lowers what hangs on the one unknown that was lowered; a ring where that would lower the first one again.

    All ties but the one from the first to the lowered one held before, so each ring below nought goes by that one.
    """
    amounts = tally.amounts
    waiting = list(reasons)
    at = 0
    while at < len(waiting):
        for bound in tally.bounds[waiting[at]]:
            z, y, c = bound[0]
            if amounts[y] + c < amounts[z]:
                reasons[z] = bound
                if z == first:
                    return ring_to(first, reasons)
                amounts[z] = amounts[y] + c
                waiting.append(z)
        at += 1
    return None


def ring_to(first, reasons):
    ring = [reasons[first]]
    while ring[-1][0][1] != first:
        ring.append(reasons[ring[-1][0][1]])
    return ring


def give_back(tally, many, amounts):
    """Lets go the ties that were taken in behind so many, and sets the amounts as they were then."""
    while len(tally.taken) > many:
        tally.bounds[tally.taken.pop()].pop()
    tally.amounts = list(amounts)
