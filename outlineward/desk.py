"""The desk: texts of programs judged and run."""

from outlineward.checks import check
from outlineward.claims import BARE_ROW
from outlineward.duties import duties
from outlineward.errors import NoCount, NoText
from outlineward.judging import judged
from outlineward.reader import is_number, read
from outlineward.running import run


def judged_text(text):
    """`kept N`, or `broken f kind path k`."""
    program = checked(text)
    told = judged(program)
    if told[0] == "kept":
        return f"kept {len(told[1])}"
    f, kind, path, k = duties(program)[told[1]][:4]
    return duty_text("broken", f, kind, path, k)


def run_text(text, numbers, inputs, most):
    """The end of a run of the first procedure, all rows (0, ())."""
    program = checked(text)
    if not program:
        raise NoCount("no procedure to run")
    f, params, rows = program[0][1:4]
    handed = numbers_read(numbers)
    if len(handed) != len(params):
        raise NoCount(f"{f} takes another number of numbers")
    end, used = run(program, f, handed, [BARE_ROW for r in rows], numbers_read(inputs), most)
    return end_text(end)


def checked(text):
    program = read(text)
    check(program)
    return program


def numbers_read(text):
    words = [word for word in text.replace("\n", " ").split(" ") if word != ""]
    for word in words:
        if not is_number(word):
            raise NoText(1)
    return [int(word) for word in words]


def end_text(end):
    if end[0] == "untrue":
        f, kind, path, k = end[1:]
        return duty_text("untrue", f, kind, path, k)
    if end[0] in ("done", "unmet"):
        return f"{end[0]} {end[1]}"
    return end[0]


def duty_text(word, f, kind, path, k):
    return f"{word} {f} {kind} {path_text(path)} {k}"


def path_text(path):
    if not path:
        return "-"
    return ".".join([str(k) for k in path])
