"""Programs made at random, small ones, that check lets by."""

from samples import ZERO, branch, each, least, loop, num, proc, rise


def some_term(chance, numbers, rows):
    kind = chance.random()
    if rows and kind < 0.3:
        return ("at", chance.choice(rows), some_place(chance, numbers))
    if kind < 0.45 or not numbers:
        return ZERO
    return num(chance.choice(numbers))


def some_place(chance, numbers):
    return (chance.choice([""] + numbers), chance.randint(-1, 1))


def some_least(chance, numbers, rows):
    return least(some_term(chance, numbers, rows), some_term(chance, numbers, rows), chance.randint(-2, 1))


def some_claim(chance, numbers, rows):
    kind = chance.random()
    if kind < 0.6 or not rows:
        return some_least(chance, numbers, rows)
    t, u, r = some_place(chance, numbers), some_place(chance, numbers), chance.choice(rows)
    if kind < 0.75:
        return rise(t, u, r)
    b = chance.choice([ZERO, num(chance.choice(numbers)) if numbers else ZERO, ("row", chance.choice(rows))])
    return each(t, u, r, chance.choice([">=", "<="]), b, chance.randint(-2, 2))


def some_claims(chance, numbers, rows, many):
    return [some_claim(chance, numbers, rows) for again in range(chance.choice(many))]


class Head:
    """What a body may name: the procedures that may be called, its numbers, params among them, and its rows."""

    def __init__(self, heads, params, rows):
        self.heads = heads
        self.own = ["k", "out"]
        self.numbers = params + self.own
        self.rows = rows


def some_body(chance, head, depth, size):
    told = []
    for again in range(chance.randint(0, size)):
        told.extend(some_statement(chance, head, depth))
    return told


def some_statement(chance, head, depth):
    """A statement, or none."""
    kind = chance.choice(["set", "set", "put", "any", "claim", "if", "while", "call"])
    x, c = chance.choice(head.own), chance.randint(-1, 1)
    term = some_term(chance, head.numbers, head.rows)
    if kind == "set":
        return [("set", x, term, c)]
    if kind == "put" and head.rows:
        return [("put", chance.choice(head.rows), some_place(chance, head.numbers), term, c)]
    if kind == "any":
        return [("any", x)]
    if kind == "claim":
        return [("claim", some_claim(chance, head.numbers, head.rows))]
    condition = some_least(chance, head.numbers, head.rows)
    if kind == "if" and depth:
        return [branch(condition, some_body(chance, head, depth - 1, 2), some_body(chance, head, depth - 1, 2))]
    if kind == "while" and depth:
        keeps = some_claims(chance, head.numbers, head.rows, [0, 0, 1, 2])
        return [loop(condition, keeps, some_body(chance, head, depth - 1, 3))]
    if kind == "call":
        f, params, rows = chance.choice(head.heads)
        if rows <= len(head.rows):
            args = tuple(chance.choice(head.numbers) for again in range(params))
            return [("call", x, f, args, tuple(chance.sample(head.rows, rows)))]
    return []


def some_program(chance):
    heads = [(f, chance.randint(0, 2), chance.randint(0, 2)) for f in "fgh"[:chance.randint(1, 3)]]
    procs = []
    for f, many, rows_many in heads:
        params, rows = list("xy"[:many]), list("rs"[:rows_many])
        needs = some_claims(chance, params, rows, [0, 0, 1])
        gives = some_claims(chance, params + ["out"], rows, [0, 0, 1])
        procs.append(proc(f, params, rows, needs, gives, some_body(chance, Head(heads, params, rows), 2, 4)))
    return tuple(procs)
