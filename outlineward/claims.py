"""Claims over numbers and rows: held, turned, and said of other names."""

from outlineward.stairs import entry

BARE_ROW = (0, ())


def place_at(place, numbers):
    """The whole number that the place (x, d) is."""
    x, d = place
    return number_at(x, numbers) + d


def term_at(term, numbers, rows):
    """The whole number that the term is."""
    if term[0] == "is":
        return number_at(term[1], numbers)
    return entry(row_at(term[1], rows), place_at(term[2], numbers))


def holds(claim, numbers, rows):
    """Whether the claim is true of these numbers and rows."""
    if claim[0] == "least":
        return least_holds(claim, numbers, rows)
    if claim[0] == "each":
        return each_holds(claim, numbers, rows)
    return rise_holds(claim, numbers, rows)


def turned(least):
    """The least that is true just where this one isn't."""
    a, b, c = least[1:]
    return ("least", b, a, 1 - c)


def said(claim, names):
    """The claim with its names, of numbers and rows, exchanged at once."""
    if claim[0] == "least":
        a, b, c = claim[1:]
        return ("least", term_said(a, names), term_said(b, names), c)
    t = place_said(claim[1], names)
    u = place_said(claim[2], names)
    r = name_said(claim[3], names)
    if claim[0] == "rise":
        return ("rise", t, u, r)
    way, b, c = claim[4:]
    return ("each", t, u, r, way, (b[0], name_said(b[1], names)), c)


def number_at(x, numbers):
    if x == "":
        return 0
    return numbers.get(x, 0)


def row_at(r, rows):
    return rows.get(r, BARE_ROW)


def least_holds(claim, numbers, rows):
    a, b, c = claim[1:]
    return term_at(a, numbers, rows) >= term_at(b, numbers, rows) + c


def each_holds(claim, numbers, rows):
    t, u, r, way, b, c = claim[1:]
    row = row_at(r, rows)
    other = compared_row(b, numbers, rows)
    for k in run_places(place_at(t, numbers), place_at(u, numbers), [row, other]):
        if not bounded(entry(row, k), way, entry(other, k) + c):
            return False
    return True


def bounded(value, way, bound):
    if way == ">=":
        return value >= bound
    return value <= bound


def compared_row(b, numbers, rows):
    if b[0] == "row":
        return row_at(b[1], rows)
    # A number is held against like a row that is the same everywhere.
    return (number_at(b[1], numbers), ())


def rise_holds(claim, numbers, rows):
    t, u, r = claim[1:]
    row = row_at(r, rows)
    places = run_places(place_at(t, numbers), place_at(u, numbers), [row])
    values = [entry(row, k) for k in places]
    return values == sorted(values)


def run_places(t, u, held_rows):
    """The places from t to u where a run begins on which none of the rows changes.

    One place stands for its whole run, so that a far reach costs no more than a near one.
    """
    places = [t]
    for base, steps in held_rows:
        places.extend([place for place, value in steps])
    return [place for place in sorted(set(places)) if t <= place <= u]


def name_said(name, names):
    if name == "":
        return ""
    return names.get(name, name)


def place_said(place, names):
    x, d = place
    return (name_said(x, names), d)


def term_said(term, names):
    if term[0] == "is":
        return ("is", name_said(term[1], names))
    return ("at", name_said(term[1], names), place_said(term[2], names))
