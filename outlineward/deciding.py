"""Cases decided: with a paper that holds for the case's book, or with a start in which the goal fails."""

from outlineward.book import booked, width
from outlineward.claims import BARE_ROW
from outlineward.errors import TooWide
from outlineward.search import searched
from outlineward.stairs import stairs

MOST_WIDE = 5


def decided(rows, goal):
    """("kept", paper), or ("stand", start)."""
    if width(rows, goal) > MOST_WIDE:
        raise TooWide(f"more than {MOST_WIDE} unlike spots and upper ends")
    found = searched(booked(rows, goal))
    if found[0] == "paper":
        return ("kept", found[1])
    return ("stand", start_of(rows, found[1]))


def start_of(rows, amounts):
    """The start in which the sources amount to what is told; what isn't told is free, and 0."""
    numbers = {source[1]: amount for source, amount in amounts if source[0] == "start"}
    taken = {source: amount for source, amount in amounts if source[0] == "pick"}
    made = made_rows(amounts)
    held = {version[1]: row for version, row in made.items() if version[0] == "row"}
    picks = []
    for n, row in enumerate(rows):
        if row[0] == "any":
            picks.append(taken.get(("pick", n), 0))
        elif row[0] == "lose":
            picks.append(made.get(("lost", n), BARE_ROW))
    return (numbers, held, picks)


def made_rows(amounts):
    """The stairs of each version, made of its entries, each up to the next one."""
    # By texts: sources may nest deeper than a key may.
    known = {repr(source): amount for source, amount in amounts}
    entries = {}
    for source, amount in amounts:
        if source[0] == "entry":
            version, (spot_source, more) = source[1:]
            held = entries.setdefault(version, {})
            held[known.get(repr(spot_source), 0) + more] = amount
    return {version: row_of(held) for version, held in entries.items()}


def row_of(held):
    return stairs(held[min(held)], list(held.items()))
