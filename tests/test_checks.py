"""Promises 6 and 7: a procedure's numbers, and programs refused at the first procedure that is wrong."""

import unittest

from outlineward.checks import check, numbers_of
from outlineward.errors import NoCount, NoName, NoSet
from samples import FILL, TRUE, ZERO, at, branch, each, least, loop, nested, num, proc, rise

HERE, THERE = ("", 0), ("", 5)


def row_claims(r):
    """Claims in which r stands at a row's place, each time at another one."""
    return [
        least(at(r), ZERO),
        least(ZERO, at(r), 3),
        each(HERE, THERE, r),
        each(HERE, THERE, r, "<=", num("p")),
        each(HERE, THERE, "r", ">=", ("row", r)),
        each(HERE, THERE, r, ">=", ("row", "r")),
        rise(HERE, THERE, r),
    ]


def number_claims(x):
    """Claims in which x stands at a number's place, each time at another one."""
    return [
        least(num(x), ZERO),
        least(ZERO, num(x)),
        least(at("r", x, 1), ZERO),
        least(ZERO, at("r", x)),
        each((x, 0), THERE, "r"),
        each(HERE, (x, -1), "r", "<="),
        each(HERE, THERE, "r", ">=", num(x)),
        rise((x, 0), THERE, "r"),
        rise(HERE, (x, 2), "r"),
    ]


def bearing(claim):
    """Statements that bear the claim, in each of the places where it can stand."""
    told = [("claim", claim), loop(TRUE, [claim]), loop(TRUE, [TRUE, claim, TRUE])]
    if claim[0] == "least":
        told.extend([branch(claim), loop(claim)])
    return told


def row_statements(r):
    """Statements in which r stands at a row's place."""
    told = [
        ("set", "x", at(r), 0),
        ("put", r, HERE, ZERO, 1),
        ("put", "r", HERE, at(r), 1),
        ("call", "x", "g", ("p",), ("r", r)),
    ]
    for claim in row_claims(r):
        told.extend(bearing(claim))
    return told


def changing_statements(x):
    return [("set", x, ZERO, 1), ("any", x), ("call", x, "g", ("p",), ("r", "s"))]


def number_statements(x):
    """Statements in which x stands at a number's place, changed or not."""
    told = changing_statements(x) + [
        ("set", "y", num(x), 1),
        ("set", "y", at("r", x), 1),
        ("put", "r", (x, 0), ZERO, 0),
        ("put", "r", HERE, num(x), 0),
        ("put", "r", HERE, at("s", x), 0),
        ("call", "y", "g", (x,), ("r", "s")),
    ]
    for claim in number_claims(x):
        told.extend(bearing(claim))
    return told


G = proc("g", ["p"], ["r", "s"])


class Checked(unittest.TestCase):
    def lets_by(self, *procs):
        self.assertIsNone(check(procs), procs)

    def refuses(self, refusal, *procs):
        before = repr(procs)
        with self.assertRaises(refusal, msg=procs) as told:
            check(procs)
        self.assertIs(type(told.exception), refusal)
        self.assertEqual(repr(procs), before)

    def refuses_body(self, refusal, body):
        """The body, with the param p and the rows r, s, is refused at any depth."""
        for deeper in nested(body):
            self.refuses(refusal, proc("f", ["p"], ["r", "s"], body=deeper), G)
            self.refuses(refusal, G, proc("f", ["p"], ["r", "s"], body=deeper))

    def lets_body_by(self, body):
        for deeper in nested(body):
            self.lets_by(proc("f", ["p"], ["r", "s"], body=deeper), G)


class LetBy(Checked):
    def test_no_procedures(self):
        self.assertIsNone(check(()))

    def test_ordinary(self):
        self.lets_by(*FILL)
        self.lets_by(proc("f"))
        self.lets_by(G)

    def test_each_form_with_right_names(self):
        for statement in row_statements("s"):
            self.lets_body_by([statement])
        for statement in number_statements("x"):
            self.lets_body_by([statement])
        for statement in number_statements("p"):
            if statement not in changing_statements("p"):
                self.lets_body_by([statement])
        for statement in number_statements("out"):
            self.lets_body_by([statement])

    def test_empty_names_are_no_names(self):
        self.lets_body_by([("set", "x", ZERO, 4), ("put", "r", ("", 3), ZERO, 0), ("claim", TRUE)])

    def test_names_of_procedures_are_free_as_numbers_and_rows(self):
        self.lets_by(proc("f", ["g"], ["f"], body=[("set", "h", at("f", "g"), 0)]), proc("g"), proc("h"))
        self.lets_by(proc("out", body=[("call", "out", "out", (), ())]))

    def test_row_in_one_number_in_another(self):
        self.lets_by(
            proc("f", ["x"], ["y"], body=[("set", "z", num("x"), 0)]),
            proc("g", ["y"], ["x", "z"], body=[("put", "z", ("y", 0), at("x"), 0)]),
        )

    def test_calls_of_itself_ahead_and_behind(self):
        own = ("call", "x", "f", ("p",), ("s", "r"))
        self.lets_by(proc("f", ["p"], ["r", "s"], body=[own]))
        self.lets_by(G, proc("f", body=[("any", "x")]), proc("h", [], ["a", "b"], body=[
            ("call", "x", "g", ("x",), ("b", "a")), ("call", "x", "f", (), ()), ("call", "x", "i", (), ("b",)),
        ]), proc("i", [], ["c"]))

    def test_args_alike(self):
        two = proc("g", ["a", "b"], ["r"])
        for args in [("p", "p"), ("x", "x"), ("out", "out"), ("x", "p")]:
            self.lets_by(two, proc("f", ["p"], ["s"], body=[("call", "x", "g", args, ("s",))]))

    def test_greatest_bounds(self):
        full = []
        for k in range(6):
            full.append(proc("f" + "abcdef"[k], "abcd", "rst", [TRUE] * 4, [TRUE] * 4, [
                branch(TRUE, [loop(TRUE, [TRUE] * 6, [branch(TRUE, [], [loop(TRUE, [TRUE], [
                    ("call", "x", "fa", ("a", "b", "c", "d"), ("t", "s", "r"))])])])])] + [("any", "x")] * 35))
        self.lets_by(*full)
        full[5] = proc("ff", "abcd", "rst", body=[("any", "x")] * 39 + [("any", "d")])
        self.refuses(NoSet, *full)


class Heads(Checked):
    def test_name_of_one_ahead(self):
        self.refuses(NoName, proc("f"), proc("f"))
        self.refuses(NoName, proc("f", ["x"]), proc("g"), proc("f", [], ["r"]))
        self.lets_by(proc("f"), proc("g"), proc("ff"))

    def test_named_twice(self):
        for params, rows in [("xx", ""), ("xyx", ""), ("", "rr"), ("", "rsr"), ("x", "x"), ("xy", "ry")]:
            self.refuses(NoName, proc("f", params, rows))
        self.lets_by(proc("f", "xy", "rs"), proc("g", "xy", "rs"))

    def test_out(self):
        self.refuses(NoName, proc("f", ["out"]))
        self.refuses(NoName, proc("f", ["x", "out"], ["r"]))
        self.refuses(NoName, proc("f", [], ["out"]))
        self.refuses(NoName, proc("f", ["x"], ["r", "out"]))

    def test_needs(self):
        for claim in number_claims("p") + row_claims("s"):
            self.lets_by(proc("f", ["p"], ["r", "s"], [claim]))
        for claim in number_claims("x") + number_claims("out") + number_claims("s") + row_claims("z") + row_claims("p"):
            self.refuses(NoName, proc("f", ["p"], ["r", "s"], [claim]))
            self.refuses(NoName, proc("f", ["p"], ["r", "s"], [TRUE, claim, TRUE], [TRUE], [("any", "x")]))

    def test_gives(self):
        for claim in number_claims("p") + number_claims("out") + row_claims("s"):
            self.lets_by(proc("f", ["p"], ["r", "s"], [], [claim]))
        for claim in number_claims("x") + number_claims("s") + row_claims("z") + row_claims("out"):
            self.refuses(NoName, proc("f", ["p"], ["r", "s"], [], [claim]))
            self.refuses(NoName, proc("f", ["p"], ["r", "s"], [TRUE], [TRUE, claim, TRUE], [("any", "x")]))


class Bodies(Checked):
    def test_no_row(self):
        for r in ["z", "p", "x", "out", "g"]:
            for statement in row_statements(r):
                self.refuses_body(NoName, [statement])
                self.refuses_body(NoName, [("any", "x"), statement, ("any", "x")])

    def test_row_as_a_number(self):
        for statement in number_statements("s"):
            self.refuses_body(NoName, [statement])
            self.refuses_body(NoName, [("any", "x"), statement, ("any", "x")])

    def test_call_of_no_procedure(self):
        for f in ["h", "r", "p", "x"]:
            self.refuses_body(NoName, [("call", "x", f, ("p",), ("r", "s"))])
        self.refuses(NoName, proc("f", body=[("call", "x", "g", (), ())]))

    def test_rows_alike_in_one_call(self):
        self.refuses_body(NoName, [("call", "x", "g", ("p",), ("r", "r"))])
        self.refuses_body(NoName, [("call", "x", "g", ("p",), ("s", "s"))])
        self.lets_body_by([("call", "x", "g", ("p",), ("r", "s")), ("call", "x", "g", ("p",), ("r", "s"))])

    def test_counts(self):
        for args in [(), ("p", "p"), ("p", "x", "x")]:
            self.refuses_body(NoCount, [("call", "x", "g", args, ("r", "s"))])
        for rows in [(), ("r",), ("s",)]:
            self.refuses_body(NoCount, [("call", "x", "g", ("p",), rows)])
        self.refuses_body(NoCount, [("call", "x", "g", ("p", "p"), ("r",))])
        self.refuses_body(NoCount, [("call", "x", "f", (), ("r", "s"))])
        more = proc("h", ["p"], ["r", "s", "t"], body=[("call", "x", "g", ("p",), ("r", "s", "t"))])
        self.refuses(NoCount, G, more)

    def test_params_changed(self):
        for statement in changing_statements("p"):
            self.refuses_body(NoSet, [statement])
            self.refuses_body(NoSet, [("any", "x"), statement, ("any", "x")])
        self.refuses_body(NoSet, [("set", "p", num("p"), 0)])
        self.refuses(NoSet, proc("f", ["a", "b"], body=[("any", "b")]))
        self.lets_by(proc("f", ["a", "b"], body=[("any", "c")]), proc("g", ["c"], body=[("any", "a"), ("any", "b")]))


class FirstWrong(Checked):
    WRONG = [
        (NoName, ("put", "z", HERE, ZERO, 0)),
        (NoCount, ("call", "x", "g", (), ())),
        (NoSet, ("any", "p")),
    ]

    def test_the_first_wrong_procedure_tells(self):
        for first, one in self.WRONG:
            for second, other in self.WRONG:
                ahead = proc("a", ["p"], ["r"], body=[one])
                behind = proc("b", ["p"], ["r"], body=[other])
                self.refuses(first, G, ahead, behind)
                self.refuses(first, ahead, G, behind)
                self.refuses(first, ahead, behind, G)
                self.refuses(first, G, ahead, proc("g"))

    def test_a_name_twice_tells_at_the_one_behind(self):
        for refusal, one in self.WRONG:
            wrong = proc("a", ["p"], ["r"], body=[one])
            self.refuses(NoName, G, proc("g"), wrong)
            self.refuses(refusal, G, wrong, G)

    def test_a_call_is_held_against_the_one_ahead_of_two(self):
        two = [proc("g", ["a"]), proc("g", ["a", "b"])]
        self.refuses(NoName, proc("f", body=[("call", "x", "g", ("x",), ())]), *two)
        self.refuses(NoCount, proc("f", body=[("call", "x", "g", ("x", "x"), ())]), *two)

    def test_same_answer_again(self):
        wrong = (G, proc("f", ["p"], body=[("any", "p")]))
        for again in range(3):
            self.refuses(NoSet, *wrong)
            self.lets_by(*FILL)


class Numbers(unittest.TestCase):
    def told(self, names, procedure):
        before = repr(procedure)
        self.assertEqual(numbers_of(procedure), sorted(names), procedure)
        self.assertEqual(repr(procedure), before)

    def test_out_alone(self):
        self.told(["out"], proc("f"))

    def test_params(self):
        self.told(["b", "a", "out", "z"], proc("f", ["z", "b", "a"]))

    def test_one_place_only_in_the_body(self):
        for statement in number_statements("only"):
            others = {x for x in ("p", "y") if repr(x) in repr(statement)}
            for body in nested([statement]):
                names = {"only", "out", "p"} | others | ({"k"} if repr("k") in repr(body) else set())
                self.told(names, proc("f", ["p"], ["r", "s"], body=body))

    def test_one_place_only_in_a_need_or_a_give(self):
        for claim in number_claims("only"):
            self.told(["only", "out"], proc("f", [], ["r"], [claim]))
            self.told(["only", "out"], proc("f", [], ["r"], [TRUE, claim]))
            self.told(["only", "out"], proc("f", [], ["r"], [], [claim]))
            self.told(["only", "out"], proc("f", [], ["r"], [], [TRUE, claim]))

    def test_no_rows_procedures_or_empty_names(self):
        self.told(["out", "x"], proc("f", [], ["r", "s"], body=[
            ("put", "r", HERE, at("s", "", 4), 1),
            ("call", "x", "g", (), ("r", "s")),
            ("claim", each(HERE, THERE, "r", ">=", ("row", "s"))),
            ("claim", rise(HERE, THERE, "s")),
            branch(TRUE),
        ]))

    def test_each_once(self):
        self.told(["out", "x", "y"], proc("f", ["x"], body=[
            ("set", "y", num("x"), 0), ("set", "y", num("y"), 0), ("set", "out", num("out"), 0),
        ]))

    def test_ordinary(self):
        self.told(["i", "n", "out", "y"], FILL[0])
        self.told(["k", "n", "out"], FILL[1])

    def test_one_that_check_refuses(self):
        self.told(["out", "p", "x"], proc("f", ["p"], body=[("any", "p"), ("call", "x", "no", ("p",), ("z",))]))

    def test_a_row_used_as_a_number_is_no_number(self):
        self.told(["out", "x"], proc("f", [], ["r"], body=[("set", "x", num("r"), 0), ("any", "r")]))

    def test_new_list_each_time(self):
        first = numbers_of(FILL[0])
        first.clear()
        self.assertEqual(numbers_of(FILL[0]), ["i", "n", "out", "y"])


if __name__ == "__main__":
    unittest.main()
