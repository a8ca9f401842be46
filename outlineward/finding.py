"""Claims of a menu found that hold at a loop."""

from outlineward.checks import bodies_of
from outlineward.deciding import decided
from outlineward.duties import duties_of, procs_by_name


def greatest(program, f, path, menu):
    """(left, out): the numbers of the claims that hold together, and (number, straight, start) for each other one."""
    procs = procs_by_name(program)
    left = list(range(len(menu)))
    out = []
    failed = first_failed(procs, f, path, menu, left)
    while failed is not None:
        out.append(failed)
        left.remove(failed[0])
        failed = first_failed(procs, f, path, menu, left)
    return (left, out)


def first_failed(procs, f, path, menu, left):
    """The first of those left of which a duty isn't kept, with that duty's straight rows and a start; or None."""
    head, body = procs[f][:6], procs[f][6]
    own = len(loop_at(body, path)[2])
    proc = head + (with_keeps(body, path, tuple([menu[n] for n in left])),)
    met = [duty for duty in duties_of(proc, procs) if duty[1] in ("enter", "keep") and duty[2] == path]
    for k, n in enumerate(left):
        for duty in met:
            if duty[3] == own + k:
                word, told = decided(duty[4], duty[5])
                if word == "stand":
                    return (n, duty[4], told)
    return None


def loop_at(body, path):
    statement = body[path[0]]
    if len(path) == 1:
        return statement
    return loop_at(bodies_of(statement)[path[1]], path[2:])


def with_keeps(body, path, more):
    """The body, with these further keeps behind those of the loop at the path."""
    k = path[0]
    statement = body[k]
    if len(path) == 1:
        least, keeps, inner = statement[1:]
        changed = ("while", least, keeps + more, inner)
    else:
        bodies = list(bodies_of(statement))
        bodies[path[1]] = with_keeps(bodies[path[1]], path[2:], more)
        changed = statement[:-len(bodies)] + tuple(bodies)
    return body[:k] + (changed,) + body[k + 1:]
