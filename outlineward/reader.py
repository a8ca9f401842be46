"""Texts read as programs and claims."""

from outlineward.errors import NoText

WORDS = (
    "each", "rise", "to", "proc", "need", "give", "back", "any", "claim", "if", "else", "end", "while", "keep", "call",
)
MOST_LETTERS = 8
MOST_FIGURES = 19


class Reading:
    """What was read so far: the procedures that are ended, and the bodies that are open, the innermost last."""

    def __init__(self):
        self.procedures = []
        self.bodies = []


class Body:
    """A body that is open: kind "proc", "while", "if" or, behind an if's else, "else"."""

    def __init__(self, kind, head):
        self.kind = kind
        # Of a procedure its names, of the others their least.
        self.head = head
        # A procedure's needs, a loop's keeps.
        self.claims = []
        self.gives = []
        # Of an if, once its else was read, the body ahead of it.
        self.first = ()
        self.statements = []


def read(text):
    """The program that the text tells, or NoText."""
    rows = text.split("\n")
    reading = Reading()
    for line, row in enumerate(rows, start=1):
        told = row.strip(" ")
        if told != "":
            take_row(reading, told, line)
    if reading.bodies:
        raise NoText(len(rows) + 1)
    return tuple(reading.procedures)


def read_claim(text):
    """The claim that the text tells, or NoText."""
    return claim_read(text.strip(" "), 1)


def take_row(reading, text, line):
    word, blank, rest = text.partition(" ")
    if word in DEEDS:
        deed = DEEDS[word]
        deed(reading, rest, line)
    else:
        take_given(reading, text, line)


def innermost(reading, line):
    """The body that a row stands in; outside a procedure nothing but a proc can stand."""
    if not reading.bodies:
        raise NoText(line)
    return reading.bodies[-1]


def refuse_unless(fits, line):
    if not fits:
        raise NoText(line)


def take_proc(reading, rest, line):
    refuse_unless(not reading.bodies, line)
    names, rows = parted_names(rest, 1, line)
    reading.bodies.append(Body("proc", (names[0], tuple(names[1:]), tuple(rows))))


def take_need(reading, rest, line):
    body = innermost(reading, line)
    refuse_unless(body.kind == "proc" and not body.gives and not body.statements, line)
    body.claims.append(claim_read(rest, line))


def take_give(reading, rest, line):
    body = innermost(reading, line)
    refuse_unless(body.kind == "proc" and not body.statements, line)
    body.gives.append(claim_read(rest, line))


def take_keep(reading, rest, line):
    body = innermost(reading, line)
    refuse_unless(body.kind == "while" and not body.statements, line)
    body.claims.append(claim_read(rest, line))


def take_back(reading, rest, line):
    body = innermost(reading, line)
    refuse_unless(body.kind == "proc" and rest == "", line)
    f, params, rows = body.head
    reading.bodies.pop()
    reading.procedures.append(
        ("proc", f, params, rows, tuple(body.claims), tuple(body.gives), tuple(body.statements))
    )


def take_given(reading, text, line):
    body = innermost(reading, line)
    left, sign, right = text.partition(" := ")
    target = named_term(left, line)
    term, c = term_read(right, line)
    if target[0] == "is":
        body.statements.append(("set", target[1], term, c))
    else:
        body.statements.append(("put", target[1], target[2], term, c))


def take_any(reading, rest, line):
    innermost(reading, line).statements.append(("any", name_read(rest, line)))


def take_claim(reading, rest, line):
    innermost(reading, line).statements.append(("claim", claim_read(rest, line)))


def take_call(reading, rest, line):
    body = innermost(reading, line)
    names, rows = parted_names(rest, 2, line)
    body.statements.append(("call", names[0], names[1], tuple(names[2:]), tuple(rows)))


def take_if(reading, rest, line):
    innermost(reading, line)
    reading.bodies.append(Body("if", least_read(rest, line)))


def take_while(reading, rest, line):
    innermost(reading, line)
    reading.bodies.append(Body("while", least_read(rest, line)))


def take_else(reading, rest, line):
    body = innermost(reading, line)
    refuse_unless(body.kind == "if" and rest == "", line)
    body.kind = "else"
    body.first = tuple(body.statements)
    body.statements = []


def take_end(reading, rest, line):
    body = innermost(reading, line)
    refuse_unless(body.kind in ("else", "while") and rest == "", line)
    if body.kind == "else":
        ended = ("if", body.head, body.first, tuple(body.statements))
    else:
        ended = ("while", body.head, tuple(body.claims), tuple(body.statements))
    reading.bodies.pop()
    innermost(reading, line).statements.append(ended)


DEEDS = {
    "proc": take_proc,
    "need": take_need,
    "give": take_give,
    "keep": take_keep,
    "back": take_back,
    "any": take_any,
    "claim": take_claim,
    "call": take_call,
    "if": take_if,
    "while": take_while,
    "else": take_else,
    "end": take_end,
}


def parted_names(text, least_many, line):
    """The names ahead of the `;`, so many at least, and those behind it."""
    words = text.split(" ")
    refuse_unless(";" in words, line)
    at = words.index(";")
    ahead = [name_read(word, line) for word in words[:at]]
    behind = [name_read(word, line) for word in words[at + 1:]]
    refuse_unless(len(ahead) >= least_many, line)
    return (ahead, behind)


# A word or sign that lacks leaves an empty text behind it, and that is no name, place or term: so the claims below
# don't ask whether each of theirs was found.


def claim_read(text, line):
    word, blank, rest = text.partition(" ")
    if word == "each":
        return each_read(rest, line)
    if word == "rise":
        return rise_read(rest, line)
    return least_read(text, line)


def least_read(text, line):
    left, sign, right = text.partition(" >= ")
    term, c = term_read(right, line)
    return ("least", alone_read(left, line), term, c)


def each_read(text, line):
    way = ">="
    if " <= " in text:
        way = "<="
    reach, sign, right = text.partition(f" {way} ")
    t, u, r = reach_read(reach, line)
    b, c = bound_read(right, line)
    return ("each", t, u, r, way, b, c)


def rise_read(text, line):
    t, u, r = reach_read(text, line)
    return ("rise", t, u, r)


def reach_read(text, line):
    """The two places and the row's name of `PLACE to PLACE r`."""
    t, word, behind = text.partition(" to ")
    u, blank, r = behind.rpartition(" ")
    return (place_read(t, line), place_read(u, line), name_read(r, line))


def place_read(text, line):
    if is_number(text):
        return ("", int(text))
    x, d = more_cut(text)
    return (name_read(x, line), d)


def term_read(text, line):
    """The term, and how much more."""
    if is_number(text):
        return (("is", ""), int(text))
    term, c = more_cut(text)
    return (named_term(term, line), c)


def bound_read(text, line):
    """What an each holds against: a number or a row, and how much more."""
    if is_number(text):
        return (("is", ""), int(text))
    b, c = more_cut(text)
    if b.endswith("[]"):
        return (("row", name_read(b[:-2], line)), c)
    return (("is", name_read(b, line)), c)


def alone_read(text, line):
    if text == "0":
        return ("is", "")
    return named_term(text, line)


def named_term(text, line):
    r, bracket, inside = text.partition("[")
    if bracket == "":
        return ("is", name_read(text, line))
    refuse_unless(inside.endswith("]"), line)
    return ("at", name_read(r, line), place_read(inside[:-1], line))


def more_cut(text):
    """What stands ahead of a last `+ N` or `- N`, and the number; the text and 0 where there is none."""
    for sign in ("+", "-"):
        ahead, blanks, figures = text.rpartition(f" {sign} ")
        if blanks != "" and is_figures(figures) and figures != "0":
            return (ahead, int(sign + figures))
    return (text, 0)


def name_read(text, line):
    refuse_unless(is_name(text), line)
    return text


def is_name(text):
    small = text.isascii() and text.isalpha() and text.islower()
    return small and len(text) <= MOST_LETTERS and text not in WORDS


def is_number(text):
    if text.startswith("-"):
        return is_figures(text[1:]) and text != "-0"
    return is_figures(text)


def is_figures(text):
    if not text.isascii() or not text.isdigit() or len(text) > MOST_FIGURES:
        return False
    return text == "0" or not text.startswith("0")
