"""Programs run, with a look at every claim on the way."""

from outlineward.claims import holds, number_at, place_at, term_at
from outlineward.duties import procs_by_name
from outlineward.stairs import written
from outlineward.steps import steps_of

MOST_DEEP = 20


class Course:
    """A run as far as it has come."""

    def __init__(self, program, inputs, most):
        self.procs = procs_by_name(program)
        self.steps = {proc[1]: steps_of(proc) for proc in program}
        self.inputs = inputs
        self.taken = 0
        self.most = most
        self.used = 0
        # The procedures that are gone through, the innermost last.
        self.frames = []


class Frame:
    """A procedure that is gone through: its numbers and rows as they are, and the step that is next."""

    def __init__(self, proc, numbers, rows, called_by):
        self.proc = proc
        # The call that it comes of; None of the first procedure.
        self.called_by = called_by
        self.numbers = dict(zip(proc[2], numbers))
        self.rows = dict(zip(proc[3], rows))
        self.at = 0


def run(program, f, numbers, rows, inputs, most):
    """(end, used): how the run ends, and how many turns it has taken."""
    course = Course(program, inputs, most)
    first = Frame(course.procs[f], numbers, rows, None)
    k = first_untrue(first.proc[4], first)
    if k is not None:
        return (("unmet", k), 0)
    course.frames.append(first)
    end = None
    while end is None:
        end = gone_on(course)
    return (end, course.used)


def gone_on(course):
    """Goes one step; the run's end, or None."""
    frame = course.frames[-1]
    steps = course.steps[frame.proc[1]]
    if frame.at == len(steps):
        return come_back(course)
    step = steps[frame.at]
    if step[0] == "go":
        frame.at = step[1]
        return None
    if course.used == course.most:
        return ("spent",)
    course.used += 1
    if step[0] == "ask":
        return ask(frame, step)
    frame.at += 1
    if step[0] == "do":
        return do(course, frame, step[1], step[2])
    return None


def first_untrue(claims, frame):
    """The number of the first of the claims that is untrue in the frame, or None."""
    for k, claim in enumerate(claims):
        if not holds(claim, frame.numbers, frame.rows):
            return k
    return None


def look(f, kind, path, claims, frame):
    """None, or the end that an untrue one of the claims brings about; f is whose duty it is."""
    k = first_untrue(claims, frame)
    if k is None:
        return None
    return ("untrue", f, kind, path, k)


def come_back(course):
    """The end of a procedure."""
    frame = course.frames[-1]
    f, rows, gives = frame.proc[1], frame.proc[3], frame.proc[5]
    end = look(f, "give", (), gives, frame)
    if end is not None:
        return end
    out = number_at("out", frame.numbers)
    held = [frame.rows[r] for r in rows]
    if frame.called_by is None:
        return ("done", out, held)
    course.frames.pop()
    hand_back(course.frames[-1], frame.called_by, out, held)
    return None


def hand_back(caller, statement, out, held):
    """Gives what a call told and did to rows to the one that called."""
    x, f, args, rows = statement[1:]
    caller.numbers[x] = out
    caller.rows.update(dict(zip(rows, held)))


def ask(frame, step):
    least, claims, kind, path, yes, no = step[1:]
    end = look(frame.proc[1], kind, path, claims, frame)
    if end is not None:
        return end
    frame.at = no
    if holds(least, frame.numbers, frame.rows):
        frame.at = yes
    return None


def do(course, frame, statement, path):
    kind = statement[0]
    if kind == "call":
        return call(course, frame, statement, path)
    if kind == "claim":
        return look(frame.proc[1], "claim", path, statement[1:], frame)
    if kind == "any":
        return take_input(course, frame, statement[1])
    a, c = statement[-2:]
    value = term_at(a, frame.numbers, frame.rows) + c
    if kind == "set":
        frame.numbers[statement[1]] = value
    else:
        r, place = statement[1:3]
        frame.rows[r] = written(frame.rows[r], place_at(place, frame.numbers), value)
    return None


def take_input(course, frame, x):
    if course.taken == len(course.inputs):
        return ("asks",)
    frame.numbers[x] = course.inputs[course.taken]
    course.taken += 1
    return None


def call(course, frame, statement, path):
    x, f, args, rows = statement[1:]
    numbers = [number_at(arg, frame.numbers) for arg in args]
    called = Frame(course.procs[f], numbers, [frame.rows[r] for r in rows], statement)
    end = look(frame.proc[1], "need", path, called.proc[4], called)
    if end is not None:
        return end
    if len(course.frames) > MOST_DEEP:
        return ("deep",)
    course.frames.append(called)
    return None
