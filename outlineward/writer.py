"""Programs and claims written as texts."""


def shown(program):
    """The text of the program."""
    rows = []
    for proc in program:
        rows.extend(proc_rows(proc))
    return "\n".join(rows)


def claim_text(claim):
    """The text of the claim."""
    if claim[0] == "least":
        a, b, c = claim[1:]
        return f"{alone_text(a)} >= {term_text(b, c)}"
    t, u, r = claim[1:4]
    reach = f"{place_text(t)} to {place_text(u)} {r}"
    if claim[0] == "rise":
        return f"rise {reach}"
    way, b, c = claim[4:]
    return f"each {reach} {way} {bound_text(b, c)}"


def proc_rows(proc):
    f, params, rows, needs, gives, body = proc[1:]
    told = [names_text(["proc", f], params, rows)]
    told.extend([f"  need {claim_text(claim)}" for claim in needs])
    told.extend([f"  give {claim_text(claim)}" for claim in gives])
    told.extend(body_rows(body, "  "))
    told.append("back")
    return told


def body_rows(body, margin):
    told = []
    for statement in body:
        if statement[0] == "if":
            told.extend(if_rows(statement, margin))
        elif statement[0] == "while":
            told.extend(while_rows(statement, margin))
        else:
            told.append(margin + plain_row(statement))
    return told


def if_rows(statement, margin):
    least, body, other = statement[1:]
    told = [f"{margin}if {claim_text(least)}"]
    told.extend(body_rows(body, margin + "  "))
    told.append(f"{margin}else")
    told.extend(body_rows(other, margin + "  "))
    told.append(f"{margin}end")
    return told


def while_rows(statement, margin):
    least, keeps, body = statement[1:]
    told = [f"{margin}while {claim_text(least)}"]
    told.extend([f"{margin}  keep {claim_text(claim)}" for claim in keeps])
    told.extend(body_rows(body, margin + "  "))
    told.append(f"{margin}end")
    return told


def plain_row(statement):
    kind = statement[0]
    if kind == "set":
        x, a, c = statement[1:]
        return f"{x} := {term_text(a, c)}"
    if kind == "put":
        r, place, a, c = statement[1:]
        return f"{r}[{place_text(place)}] := {term_text(a, c)}"
    if kind == "any":
        return f"any {statement[1]}"
    if kind == "claim":
        return f"claim {claim_text(statement[1])}"
    x, f, args, rows = statement[1:]
    return names_text(["call", x, f], args, rows)


def names_text(words, numbers, rows):
    return " ".join(words + list(numbers) + [";"] + list(rows))


def place_text(place):
    x, d = place
    return with_more(x, d)


def term_text(term, c):
    """The text of the term and c more."""
    if term == ("is", ""):
        return with_more("", c)
    return with_more(alone_text(term), c)


def alone_text(term):
    if term == ("is", ""):
        return "0"
    if term[0] == "is":
        return term[1]
    return f"{term[1]}[{place_text(term[2])}]"


def bound_text(b, c):
    if b[0] == "row":
        return with_more(f"{b[1]}[]", c)
    return with_more(b[1], c)


def with_more(named, c):
    """What is named and c more; c itself where nothing is named."""
    if named == "":
        return str(c)
    if c > 0:
        return f"{named} + {c}"
    if c < 0:
        return f"{named} - {-c}"
    return named
