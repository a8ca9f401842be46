"""What a procedure names, and programs that are wrong refused."""

from outlineward.errors import NoCount, NoName, NoSet


def numbers_of(proc):
    """The names of all its numbers, sorted, each once, params and out among them."""
    params, rows, needs, gives, body = proc[2:]
    named = claims_numbers(needs + gives)
    for statement in all_statements(body):
        named.extend(numbers_named(statement))
    others = [x for x in named if x != "" and x not in rows]
    return sorted(set(others) | set(params) | {"out"})


def check(program):
    """None, or a refusal at the first procedure that is wrong."""
    takes = {}
    for proc in program:
        # Where two bear one name, the one behind is the wrong one, so calls are held against the one ahead.
        takes.setdefault(proc[1], (len(proc[2]), len(proc[3])))
    ahead = {}
    for proc in program:
        if proc[1] in ahead:
            raise NoName(f"two procedures are called {proc[1]}")
        check_head(proc)
        check_promises(proc)
        for statement in all_statements(proc[6]):
            check_statement(statement, proc, takes)
        ahead[proc[1]] = True


def check_head(proc):
    params, rows = proc[2:4]
    names = params + rows
    if len(set(names)) < len(names):
        raise NoName(f"{proc[1]} names a param or row twice")
    if "out" in names:
        raise NoName(f"{proc[1]} has out in its head")


def check_promises(proc):
    f, params, rows, needs, gives = proc[1:6]
    for claim in needs + gives:
        check_rows(claim_rows(claim), rows, f)
    for x in claims_numbers(needs):
        if x != "" and x not in params:
            raise NoName(f"a need of {f} speaks of {x}")
    for x in claims_numbers(gives):
        if x not in ("", "out") and x not in params:
            raise NoName(f"a give of {f} speaks of {x}")


def check_statement(statement, proc, takes):
    f, params, rows = proc[1:4]
    check_rows(rows_named(statement), rows, f)
    for x in numbers_named(statement):
        if x in rows:
            raise NoName(f"{f} uses its row {x} as a number")
    if statement[0] in ("set", "any", "call") and statement[1] in params:
        raise NoSet(f"{f} changes its param {statement[1]}")
    if statement[0] == "call":
        check_call(statement, takes)


def check_call(statement, takes):
    f, args, rows = statement[2:]
    if f not in takes:
        raise NoName(f"{f} is no procedure")
    if len(set(rows)) < len(rows):
        raise NoName(f"a call of {f} hands in a row twice")
    if takes[f] != (len(args), len(rows)):
        raise NoCount(f"a call of {f} hands in another number of things than it takes")


def check_rows(names, rows, f):
    for r in names:
        if r not in rows:
            raise NoName(f"{r} is no row of {f}")


def all_statements(body):
    """The statements of the body and of all bodies within it, each ahead of those within."""
    told = []
    for statement in body:
        told.append(statement)
        for inner in bodies_of(statement):
            told.extend(all_statements(inner))
    return told


def bodies_of(statement):
    if statement[0] == "if":
        return statement[2:]
    if statement[0] == "while":
        return statement[3:]
    return ()


def own_claims(statement):
    """The claims that the statement bears itself, not those within its bodies."""
    if statement[0] == "while":
        return statement[1:2] + statement[2]
    return statement[1:2]


def numbers_named(statement):
    """What stands at a number's place in the statement, "" too; not what its bodies name."""
    kind = statement[0]
    if kind == "set":
        return [statement[1]] + term_numbers(statement[2])
    if kind == "put":
        return [statement[2][0]] + term_numbers(statement[3])
    if kind == "any":
        return [statement[1]]
    if kind == "call":
        return [statement[1]] + list(statement[3])
    return claims_numbers(own_claims(statement))


def rows_named(statement):
    """What stands at a row's place in the statement; not what its bodies name."""
    kind = statement[0]
    if kind == "set":
        return term_rows(statement[2])
    if kind == "put":
        return [statement[1]] + term_rows(statement[3])
    if kind == "any":
        return []
    if kind == "call":
        return list(statement[4])
    told = []
    for claim in own_claims(statement):
        told.extend(claim_rows(claim))
    return told


def claims_numbers(claims):
    told = []
    for claim in claims:
        told.extend(claim_numbers(claim))
    return told


def claim_numbers(claim):
    if claim[0] == "least":
        return term_numbers(claim[1]) + term_numbers(claim[2])
    ends = [claim[1][0], claim[2][0]]
    if claim[0] == "each" and claim[5][0] == "is":
        return ends + [claim[5][1]]
    return ends


def claim_rows(claim):
    """The names of the rows that the claim speaks of."""
    if claim[0] == "least":
        return term_rows(claim[1]) + term_rows(claim[2])
    if claim[0] == "each" and claim[5][0] == "row":
        return [claim[3], claim[5][1]]
    return [claim[3]]


def term_numbers(term):
    if term[0] == "is":
        return [term[1]]
    return [term[2][0]]


def term_rows(term):
    """The name of the row that the term reads, if it reads one."""
    if term[0] == "is":
        return []
    return [term[1]]
