"""Rows, a whole number at every whole place, told as stairs: (base, steps)."""


def stairs(base, pairs):
    """The stairs of a base and tuples (place, value), places unlike, in any order."""
    steps = []
    ahead = base
    for place, value in sorted(pairs):
        # A step that changes nothing is left out, so that equal rows are equal stairs.
        if value != ahead:
            steps.append((place, value))
            ahead = value
    return (base, tuple(steps))


def entry(row, p):
    """What the row holds at the place p."""
    base, steps = row
    count = steps_up_to(steps, p)
    if count == 0:
        return base
    return steps[count - 1][1]


def written(row, p, v):
    """The row with v at the place p, and all else as before."""
    base, steps = row
    ahead = list(steps[:steps_up_to(steps, p - 1)])
    behind = list(steps[steps_up_to(steps, p + 1):])
    # What stood right behind p may have come from a step that v now hides, so it is said anew.
    return stairs(base, ahead + [(p, v), (p + 1, entry(row, p + 1))] + behind)


def steps_up_to(steps, p):
    """How many of the steps stand at the place p or ahead of it."""
    low = 0
    high = len(steps)
    while low < high:
        middle = (low + high) // 2
        if steps[middle][0] <= p:
            low = middle + 1
        else:
            high = middle
    return low
