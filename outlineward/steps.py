"""A procedure's body laid out flat, as steps that are gone one by one, for those that go the ways of a run.

Steps: ("do", statement, path), a set, put, any, claim or call; ("come",), a loop is come to; ("ask", least, claims,
kind, path, yes, no), the claims held, then on at the step yes where the least is true, else at no; ("go", at), on at
that step. Ahead of each but a go a turn is taken.
"""


def steps_of(proc):
    steps = []
    lay_body(steps, proc[6], ())
    return steps


def lay_body(steps, body, around):
    for k, statement in enumerate(body):
        path = around + (k,)
        if statement[0] == "if":
            lay_if(steps, statement, path)
        elif statement[0] == "while":
            lay_while(steps, statement, path)
        else:
            steps.append(("do", statement, path))


def lay_if(steps, statement, path):
    least, body, other = statement[1:]
    ask = room(steps)
    lay_body(steps, body, path + (0,))
    go = room(steps)
    lay_body(steps, other, path + (1,))
    steps[ask] = ("ask", least, (), "", path, ask + 1, go + 1)
    steps[go] = ("go", len(steps))


def lay_while(steps, statement, path):
    least, keeps, body = statement[1:]
    steps.append(("come",))
    enter = room(steps)
    lay_body(steps, body, path + (0,))
    again = room(steps)
    # The loop is asked at two steps, so that where one stands tells whether it was just come to.
    steps[enter] = ("ask", least, keeps, "enter", path, enter + 1, again + 1)
    steps[again] = ("ask", least, keeps, "keep", path, enter + 1, again + 1)


def room(steps):
    """The number of a step that is laid later, when it is known where it leads."""
    steps.append(None)
    return len(steps) - 1
