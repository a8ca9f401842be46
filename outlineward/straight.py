"""Straight rows gone through from a start."""

from outlineward.claims import BARE_ROW, holds, place_at, row_at, term_at
from outlineward.stairs import written


def through(rows, start):
    """("through", numbers, rows), or ("barred", n) at the first row n whose claim is untrue there."""
    numbers = dict(start[0])
    held = dict(start[1])
    picks = start[2]
    taken = 0
    for n, row in enumerate(rows):
        kind = row[0]
        if kind == "know":
            if not holds(row[1], numbers, held):
                return ("barred", n)
        elif kind == "set":
            numbers[row[1]] = term_at(row[2], numbers, held) + row[3]
        elif kind == "put":
            held[row[1]] = put_into(row, numbers, held)
        elif kind == "any":
            numbers[row[1]] = pick_at(picks, taken, 0)
            taken += 1
        else:
            held[row[1]] = pick_at(picks, taken, BARE_ROW)
            taken += 1
    return ("through", numbers, held)


def put_into(row, numbers, held):
    r, place, a, c = row[1:]
    return written(row_at(r, held), place_at(place, numbers), term_at(a, numbers, held) + c)


def pick_at(picks, n, lacking):
    if n < len(picks):
        return picks[n]
    return lacking
