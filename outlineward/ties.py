"""Ties (x, y, c): the unknown x is at most c more than the unknown y."""


def settled(count, ties):
    """("values", list), by which all ties hold, or ("ring", list), ties that add up to below nought."""
    values = [0 for unknown in range(count)]
    reasons = [None for unknown in range(count)]
    turns = 1
    lowered = lower_once(values, reasons, ties)
    while lowered is not None:
        # Without such a ring no value comes by more than count - 1 ties, so a turn of that many more is idle.
        if turns == count:
            return ("ring", ring_behind(lowered, reasons))
        lowered = lower_once(values, reasons, ties)
        turns += 1
    return ("values", [value - values[0] for value in values])


def turned_tie(tie):
    """The tie that holds just where this one doesn't."""
    x, y, c = tie
    return (y, x, -1 - c)


def lower_once(values, reasons, ties):
    """Lowers each value that its ties ask lower; the unknown that was lowered last, or None."""
    lowered = None
    for tie in ties:
        x, y, c = tie
        if values[y] + c < values[x]:
            values[x] = values[y] + c
            reasons[x] = tie
            lowered = x
    return lowered


def ring_behind(lowered, reasons):
    """The ring that one comes to by going back, from reason to reason, from what was lowered too often."""
    unknown = lowered
    for step in reasons:
        # As many steps as there are unknowns: what leads up to the ring is left behind.
        unknown = reasons[unknown][1]
    ring = [reasons[unknown]]
    while ring[-1][1] != unknown:
        ring.append(reasons[ring[-1][1]])
    return ring
