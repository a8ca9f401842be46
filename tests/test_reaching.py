"""Promises 21 and 3: runs found that end with an untrue claim, within so many turns."""

import random
import unittest

from answers import asked, is_stairs, is_whole, some_stairs
from outlineward.checks import check
from outlineward.errors import OutlineError, TooMany, TooWide
from outlineward.judging import judged
from outlineward.reaching import reached
from outlineward.reader import read
from outlineward.running import run
from programs import BROKEN, KEPT
from samples import TRUE, ZERO, at, branch, each, least, loop, num, proc, rise
from some_programs import some_program

FALSE = least(ZERO, ZERO, 1)
POSITIVE = least(num("x"), ZERO, 1)
UP = ("set", "k", num("k"), 1)
FORK = branch(POSITIVE)


class End(Exception):
    """The end of a way."""


class Guided:
    """A run whose leasts are answered as told, then by yes: what it comes to, and how often it was asked."""

    def __init__(self, program, most, answers):
        self.procs = {one[1]: one for one in program}
        self.left = most
        self.answers = answers
        self.given = []
        # For each claim that is come to the answers that were given ahead.
        self.met = []

    def turn(self):
        if self.left == 0:
            raise End("spent")
        self.left -= 1

    def meet(self, claims):
        self.met.extend([tuple(self.given)] * len(claims))

    def answer(self):
        n = len(self.given)
        self.given.append(self.answers[n] if n < len(self.answers) else True)
        return self.given[-1]

    def proc(self, f, deep):
        self.body(self.procs[f][6], deep)
        self.meet(self.procs[f][5])

    def body(self, body, deep):
        for statement in body:
            self.turn()
            if statement[0] == "claim":
                self.meet([statement[1]])
            elif statement[0] == "if":
                self.body(statement[2] if self.answer() else statement[3], deep)
            elif statement[0] == "while":
                self.round(statement, deep)
            elif statement[0] == "call":
                self.meet(self.procs[statement[2]][4])
                if deep == 20:
                    raise End("deep")
                self.proc(statement[2], deep + 1)

    def round(self, statement, deep):
        self.turn()
        self.meet(statement[2])
        while self.answer():
            self.body(statement[3], deep)
            self.turn()
            self.meet(statement[2])


def all_ways(program, f, most, stop):
    """How each way ends, the one on which the leasts are true first, and the number of cases; at most stop ways."""
    ends, cases, answers = [], set(), []
    while answers is not None and len(ends) < stop:
        guided = Guided(program, most, answers)
        try:
            guided.proc(f, 0)
            ends.append("done")
        except End as end:
            ends.append(str(end))
        for n, ahead in enumerate(guided.met):
            cases.add((ahead, n))
        answers = list(guided.given)
        while answers and not answers[-1]:
            answers.pop()
        answers = answers[:-1] + [False] if answers else None
    return (ends, len(cases))


class Reaching(unittest.TestCase):
    def told(self, program, most, f=None):
        """The answer, held against the words by themselves."""
        check(program)
        name = f or program[0][1]
        answer = asked(self, reached, program, name, most)
        self.assertIs(type(answer), tuple)
        if answer[0] == "none":
            self.assertEqual(len(answer), 2)
            self.assertEqual(answer[1], all_ways(program, name, most, 17)[1])
        else:
            word, numbers, rows, inputs = answer
            self.assertEqual(word, "run")
            self.assertEqual([type(told) for told in (numbers, rows, inputs)], [list, list, list])
            self.assertTrue(all(is_whole(number) for number in numbers + inputs))
            self.assertTrue(all(is_stairs(row) for row in rows))
            self.assertEqual(run(program, name, numbers, rows, inputs, most)[0][0], "untrue", answer)
        return answer

    def none(self, n, program, most, f=None):
        self.assertEqual(self.told(program, most, f), ("none", n))

    def runs(self, end, program, most, f=None):
        """A run is told that ends with the untrue claim of this name."""
        answer = self.told(program, most, f)
        self.assertEqual(answer[0], "run", answer)
        self.assertEqual(run(program, f or program[0][1], *answer[1:], most)[0], ("untrue",) + end)
        return answer

    def of_body(self, body):
        return (proc("f", ["x"], ["r"], body=body),)


class Straight(Reaching):
    def test_nothing_to_come_to(self):
        for most in [0, 1, 20]:
            self.none(0, self.of_body([]), most)
            self.none(0, self.of_body([UP, ("any", "k")]), most)

    def test_claims(self):
        body = [("claim", TRUE), UP, ("claim", least(num("k"), ZERO, 1)), ("claim", least(num("k"), num("x")))]
        for most, n in [(0, 0), (1, 1), (2, 1), (3, 2)]:
            self.none(n, self.of_body(body), most)
        for most in [4, 5, 20]:
            answer = self.runs(("f", "claim", (3,), 0), self.of_body(body), most)
            self.assertGreater(answer[1][0], 1)
        body[3] = ("claim", least(ZERO, num("k"), -1))
        self.none(3, self.of_body(body), 20)

    def test_numbers_are_nought_at_the_beginning(self):
        self.none(2, self.of_body([("claim", least(ZERO, num("k"))), ("claim", least(num("out"), ZERO))]), 20)

    def test_needs_of_the_first_are_known(self):
        program = (proc("f", ["x"], ["r"], [POSITIVE, least(at("r", "x"), ZERO, 3)], [], [
            ("claim", POSITIVE), ("claim", least(at("r", "x"), num("x"), 1)),
        ]),)
        self.none(1, program, 1)
        answer = self.runs(("f", "claim", (1,), 0), program, 2)
        self.assertGreaterEqual(answer[1][0], 3)

    def test_gives(self):
        program = (proc("f", ["x"], [], [], [least(num("out"), num("x")), least(num("out"), ZERO, 1)], [
            ("set", "out", num("x"), 0),
        ]),)
        # Of nought turns the way ends ahead of its gives.
        self.none(0, program, 0)
        answer = self.runs(("f", "give", (), 1), program, 1)
        self.assertLessEqual(answer[1][0], 0)
        self.runs(("f", "give", (), 0), (proc("f", [], [], [], [FALSE]),), 0)
        self.none(1, (proc("f", [], [], [], [TRUE]),), 0)

    def test_inputs(self):
        body = [("any", "k"), ("any", "j"), ("any", "l"), ("claim", least(num("k"), num("j"), 5))]
        answer = self.runs(("f", "claim", (3,), 0), self.of_body(body), 4)
        self.assertEqual(len(answer[3]), 3)
        self.assertLess(answer[3][0], answer[3][1] + 5)

    def test_rows(self):
        body = [("claim", each(("", 0), ("x", 0), "r"))]
        answer = self.runs(("f", "claim", (0,), 0), self.of_body(body), 1)
        self.assertGreaterEqual(answer[1][0], 0)
        self.runs(("f", "claim", (0,), 0), self.of_body([("claim", rise(("", 0), ("x", 0), "r"))]), 1)
        put = ("put", "r", ("x", 0), ZERO, 4)
        self.none(1, self.of_body([put, ("claim", least(at("r", "x"), ZERO, 4))]), 2)
        self.runs(("f", "claim", (1,), 0), self.of_body([put, ("claim", least(at("r", "x", 1), ZERO, 4))]), 2)

    def test_of_another_procedure(self):
        program = (proc("f", body=[("claim", FALSE)]), proc("g", body=[("claim", TRUE)]))
        self.none(1, program, 5, "g")
        self.runs(("f", "claim", (0,), 0), program, 5)


class Ifs(Reaching):
    def test_the_way_on_which_the_least_is_true_goes_first(self):
        body = [branch(POSITIVE, [("claim", FALSE)], [("claim", FALSE)])]
        self.runs(("f", "claim", (0, 0, 0), 0), self.of_body(body), 20)
        body = [branch(POSITIVE, [UP], [("claim", FALSE)]), ("claim", FALSE)]
        self.runs(("f", "claim", (1,), 0), self.of_body(body), 20)
        self.runs(("f", "claim", (0, 1, 0), 0), self.of_body(body), 2)
        body = [branch(POSITIVE, [UP], [("claim", FALSE)]), ("claim", POSITIVE)]
        self.runs(("f", "claim", (0, 1, 0), 0), self.of_body(body), 20)

    def test_what_is_known_on_each_way(self):
        body = [branch(POSITIVE, [("claim", POSITIVE)], [("claim", least(ZERO, num("x")))])]
        self.none(2, self.of_body(body), 20)
        self.none(0, self.of_body(body), 1)
        body = [branch(POSITIVE, [], [("claim", least(ZERO, num("x"), 1))])]
        self.assertEqual(self.runs(("f", "claim", (0, 1, 0), 0), self.of_body(body), 20)[1], [0])

    def test_once_ahead_of_where_ways_part(self):
        body = [("claim", TRUE), FORK, ("claim", TRUE), FORK, ("claim", TRUE)]
        self.none(1 + 2 + 4, self.of_body(body), 20)
        self.none(1 + 2, self.of_body(body), 4)

    def test_ways_that_no_run_goes(self):
        body = [branch(FALSE, [("claim", FALSE)], [("claim", TRUE)])]
        self.none(2, self.of_body(body), 20)


class Loops(Reaching):
    def counting(self, keeps, body=(UP,)):
        return self.of_body([loop(least(num("x"), num("k"), 1), keeps, body)])

    def test_keeps_each_time(self):
        keeps = [least(num("k"), ZERO), TRUE]
        # Come to and asked: 2 turns, then 2 more for each round.
        for most in range(14):
            self.none(2 * (most // 2), self.counting(keeps), most)

    def test_enter_and_keep(self):
        for bound in range(4):
            keeps = [TRUE, least(ZERO, num("k"), -bound)]
            turns = 2 + 2 * (bound + 1)
            self.assertEqual(self.told(self.counting(keeps), turns - 1)[0], "none")
            answer = self.runs(("f", "keep", (0,), 1), self.counting(keeps), turns)
            self.assertGreater(answer[1][0], bound)
            self.runs(("f", "keep", (0,), 1), self.counting(keeps), turns + 5)
        self.runs(("f", "enter", (0,), 0), self.counting([POSITIVE]), 2)
        self.assertEqual(self.told(self.counting([POSITIVE]), 1), ("none", 0))

    def test_behind_the_loop(self):
        program = self.of_body([loop(least(num("x"), num("k"), 1), [], [UP]), ("claim", least(ZERO, num("k"), -2))])
        # Behind no round, one and two the claim takes the third, fifth and seventh turn; behind three the ninth.
        for most, n in [(2, 0), (3, 1), (4, 1), (5, 2), (7, 3), (8, 3)]:
            self.none(n, program, most)
        answer = self.runs(("f", "claim", (1,), 0), program, 9)
        self.assertEqual(answer[1], [3])

    def test_true_goes_first(self):
        program = self.counting([], [("claim", FALSE)])
        self.runs(("f", "claim", (0, 0, 0), 0), program, 20)
        program = self.of_body([loop(POSITIVE, [], [UP]), ("claim", FALSE)])
        self.assertLessEqual(self.runs(("f", "claim", (1,), 0), program, 20)[1][0], 0)

    def test_loops_in_loops(self):
        inner = loop(least(num("j"), ZERO, 1), [least(ZERO, num("k"))], [("set", "j", ZERO, 0)])
        program = self.of_body([loop(TRUE, [], [("any", "j"), inner, UP])])
        self.runs(("f", "enter", (0, 0, 1), 0), program, 2 + 4 + 1 + 3)
        self.assertEqual(self.told(program, 2 + 4 + 1 + 2)[0], "none")


class Calls(Reaching):
    G = proc("g", ["y"], ["r", "s"], [least(num("y"), ZERO)], [least(num("out"), num("y"), 1)], [
        ("any", "k"), ("put", "r", ("y", 0), num("k"), 0), ("set", "out", num("y"), 1),
        ("claim", least(num("k"), num("y"))),
    ])

    def test_needs_gives_and_what_is_done(self):
        body = [("any", "k"), ("call", "j", "g", ("k",), ("s", "r"))]
        program = (proc("f", ["x"], ["r", "s"], body=body), self.G)
        self.assertEqual(self.told(program, 1), ("none", 0))
        answer = self.runs(("f", "need", (1,), 0), program, 2)
        self.assertLess(answer[3][0], 0)
        body[0] = ("set", "k", ZERO, 3)
        program = (proc("f", ["x"], ["r", "s"], body=body), self.G)
        self.assertEqual(self.told(program, 5), ("none", 1))
        answer = self.runs(("g", "claim", (3,), 0), program, 6)
        self.assertLess(answer[3][0], 3)

    def test_rows_handed_on_in_another_order(self):
        g = proc("g", ["y"], ["r", "s"], body=[("put", "r", ("y", 0), ZERO, 7)])
        for order, name in [(("s", "r"), "s"), (("r", "s"), "r")]:
            body = [("call", "j", "g", ("x",), order), ("claim", least(at(name, "x"), ZERO, 7))]
            self.none(1, (proc("f", ["x"], ["r", "s"], body=body), g), 20)
            other = "r" if name == "s" else "s"
            body = [("call", "j", "g", ("x",), order), ("claim", least(at(other, "x"), ZERO, 7))]
            self.runs(("f", "claim", (1,), 0), (proc("f", ["x"], ["r", "s"], body=body), g), 20)
            # Handed on twice, in another order each time.
            h = proc("h", ["x"], ["s", "r"], body=[("call", "j", "f", ("x",), ("r", "s"))])
            f = proc("f", ["x"], ["r", "s"], body=body[:1])
            whole = (proc("e", ["x"], ["r", "s"], body=[("call", "j", "h", ("x",), ("s", "r")), (
                "claim", least(at(name, "x"), ZERO, 7),
            )]), h, f, g)
            self.none(1, whole, 20)

    def test_names_are_kept_apart(self):
        g = proc("g", ["x"], body=[UP, ("set", "j", num("x"), 5), ("set", "out", num("j"), 1)])
        body = [("set", "k", ZERO, 4), ("call", "j", "g", ("k",), ())]
        body += [("claim", least(num("k"), ZERO, 4)), ("claim", least(ZERO, num("k"), -4))]
        body += [("claim", least(num("j"), ZERO, 10)), ("claim", least(ZERO, num("j"), -10))]
        body += [("call", "k", "g", ("x",), ()), ("claim", least(num("k"), num("x"), 6))]
        self.none(5, (proc("f", ["x"], body=body), g), 20)
        # Its own numbers are nought at each call anew.
        g = proc("g", [], body=[("claim", least(ZERO, num("k"))), ("claim", least(ZERO, num("out"))), UP, (
            "set", "out", num("k"), 1,
        )])
        self.none(4, (proc("f", body=[("call", "k", "g", (), ())] * 2), g), 20)

    def test_names_are_kept_apart_further_within(self):
        nine = [("set", "k", ZERO, 9), ("set", "out", ZERO, 9)]
        five = [("claim", least(num("k"), ZERO, 5)), ("claim", least(ZERO, num("k"), -5))]
        g = proc("g", ["x"], body=[("set", "k", ZERO, 5), ("call", "j", "h", ("k",), ())] + five + [
            ("claim", least(num("x"), ZERO, 3)), ("claim", least(ZERO, num("x"), -3)), ("set", "out", num("x"), 0),
        ])
        body = [("set", "k", ZERO, 3), ("call", "k", "g", ("k",), ()), ("claim", least(ZERO, num("k"), -3))]
        f = proc("f", body=body)
        self.none(5, (f, g, proc("h", ["x"], body=nine)), 20)
        # Of itself: what it was called with is there still behind the call.
        inner = [("set", "k", num("x"), -1), ("call", "j", "f", ("k",), ()), ("claim", least(num("k"), num("x"), -1))]
        inner += [("claim", least(num("x"), num("k"), 1))]
        program = (proc("f", ["x"], body=[branch(POSITIVE, inner, [])]),)
        self.none(2 + 4 + 1, program, 11)

    def test_args_alike_and_x_among_them(self):
        g = proc("g", ["x", "y"], [], [least(num("x"), num("y"))], [], [("set", "out", num("x"), 1)])
        body = [("any", "k"), ("call", "k", "g", ("k", "k"), ()), ("any", "j"), ("claim", least(num("k"), num("j")))]
        answer = self.runs(("f", "claim", (3,), 0), (proc("f", body=body), g), 20)
        self.assertGreater(answer[3][1], answer[3][0] + 1)

    def test_inputs_in_the_order_in_which_they_are_taken(self):
        g = proc("g", body=[("any", "k"), ("any", "out")])
        body = [("any", "a"), ("call", "b", "g", (), ()), ("any", "c")]
        order = [least(num("b"), num("a"), 1), least(num("c"), num("b"), 1)]
        body += [branch(order[0], [branch(order[1], [("claim", FALSE)])])]
        answer = self.runs(("f", "claim", (3, 0, 0, 0, 0), 0), (proc("f", body=body), g), 20)
        a, k, b, c = answer[3]
        self.assertLess(a, b)
        self.assertLess(b, c)

    def test_of_itself(self):
        text = """\
proc down x ;
  need x >= 0
  give 0 >= out
  if x >= 1
    k := x - 1
    call out down k ;
    out := out + 1
  else
  end
back"""
        program = read(text)
        # 1 if; of the other body the give is due. With x at least 1: k, call and its need, and so on.
        self.assertEqual(self.told(program, 0), ("none", 0))
        self.assertEqual(self.told(program, 1), ("none", 1))
        self.assertEqual(self.told(program, 4), ("none", 3))
        answer = self.runs(("down", "give", (), 0), program, 5)
        self.assertEqual(answer[1], [1])
        # Called by itself with x one less, it ends with an untrue give further within.
        self.assertEqual(run(program, "down", [1], [], [], 5), (("untrue", "down", "give", (), 0), 5))

    def test_deep(self):
        """Beyond twenty turns calls may come to be too deep."""
        program = (proc("f", [], [], [TRUE], [FALSE], [("call", "k", "f", (), ())]),)
        self.none(20, program, 20)
        self.none(21, program, 21)
        self.none(21, program, 25)


class Ways(Reaching):
    def refused(self, program, most):
        check(program)
        self.assertGreater(len(all_ways(program, "f", most, 40)[0]), 16)
        with self.assertRaises(TooMany) as caught:
            reached(program, "f", most)
        self.assertIsInstance(caught.exception, OutlineError)

    def test_sixteen_and_seventeen(self):
        sixteen = [FORK] * 4
        self.none(16, self.of_body(sixteen + [("claim", TRUE)]), 20)
        self.none(0, self.of_body(sixteen), 20)
        self.refused(self.of_body([FORK] * 5), 20)
        # A way each by fewer turns: spent.
        self.none(0, self.of_body([FORK] * 5), 4)
        self.refused(self.of_body([FORK] * 5), 5)
        seventeen = [branch(POSITIVE, sixteen, [])]
        self.refused(self.of_body(seventeen), 20)
        self.refused(self.of_body([branch(POSITIVE, [], sixteen)]), 20)

    def test_loops(self):
        """A way for each number of rounds, and the one that is spent."""
        round_by_round = self.of_body([loop(POSITIVE)])
        for most in range(16):
            self.none(0, round_by_round, most)
            self.assertEqual(len(all_ways(round_by_round, "f", most, 40)[0]), max(most, 1))
        self.none(0, round_by_round, 16)
        self.refused(round_by_round, 17)
        self.refused(round_by_round, 20)

    def test_ahead_of_all_else(self):
        self.refused(self.of_body([("claim", FALSE)] + [FORK] * 5), 20)
        self.refused(self.of_body([FORK] * 5 + [("claim", FALSE)]), 20)
        reads = [("set", "k", at("r", "", d), 0) for d in range(6)]
        self.refused(self.of_body(reads + [("claim", TRUE)] + [FORK] * 5), 20)

    def test_whether_any_run_goes_them_or_not(self):
        self.refused(self.of_body([branch(TRUE)] * 5), 20)
        self.refused((proc("f", ["x"], [], [FALSE], [], [FORK] * 5),), 20)

    def test_ways_in_calls(self):
        g = proc("g", ["y"], body=[branch(least(num("y"), ZERO))] * 2)
        f = proc("f", ["x"], body=[("call", "k", "g", ("x",), ())] * 2)
        self.none(0, (f, g), 20)
        self.refused((proc("f", ["x"], body=[("call", "k", "g", ("x",), ())] * 2 + [FORK]), g), 20)

    def test_done_spent_and_deep(self):
        body = [branch(POSITIVE, [UP, UP], [])]
        self.assertEqual(all_ways(self.of_body(body), "f", 2, 40)[0], ["spent", "done"])
        self.none(0, self.of_body(body), 2)
        program = (proc("f", ["x"], body=[branch(least(num("x"), ZERO, 1), [("call", "k", "f", ("x",), ())], [])]),)
        self.assertEqual(all_ways(program, "f", 28, 40)[0][0], "spent")
        self.none(0, program, 28)


class Wide(Reaching):
    READS = [("set", "k", at("r", "", d), 0) for d in range(6)]

    def test_the_untrue_claim_ahead_and_behind(self):
        wide = self.READS + [("claim", TRUE)]
        self.runs(("f", "claim", (0,), 0), self.of_body([("claim", FALSE)] + wide), 20)
        check(self.of_body(wide))
        self.assertRaises(TooWide, reached, self.of_body(wide + [("claim", FALSE)]), "f", 20)
        self.assertRaises(TooWide, reached, self.of_body(wide), "f", 20)
        self.none(0, self.of_body(wide), 6)
        body = [branch(POSITIVE, wide, [("claim", FALSE)])]
        self.assertRaises(TooWide, reached, self.of_body(body), "f", 20)
        body = [branch(POSITIVE, [("claim", FALSE)], wide)]
        self.runs(("f", "claim", (0, 0, 0), 0), self.of_body(body), 20)


class Whole(Reaching):
    def test_programs_that_are_kept(self):
        for text in KEPT:
            program = read(text)
            self.assertEqual(judged(program)[0], "kept")
            for most in [0, 1, 5, 9]:
                self.assertEqual(self.told(program, most)[0], "none")

    def test_programs_that_are_broken(self):
        """A broken duty need not be met by a run; where a run is told, it ends untrue."""
        seen = {"run": 0, "none": 0, "wide": 0}
        for text, name in BROKEN:
            try:
                seen[self.told(read(text), 9)[0]] += 1
            except TooWide:
                seen["wide"] += 1
        self.assertGreater(min(seen["run"], seen["none"]), 5, seen)

    def test_many(self):
        chance = random.Random(61)
        seen = {"run": 0, "none": 0, "many": 0, "wide": 0}
        for again in range(1200):
            program = some_program(chance)
            told = chance.choice(program)
            f, most = told[1], chance.randint(0, 14)
            many = len(all_ways(program, f, most, 17)[0]) > 16
            try:
                answer = reached(program, f, most)
            except TooMany:
                self.assertTrue(many)
                seen["many"] += 1
                continue
            except TooWide:
                self.assertFalse(many)
                seen["wide"] += 1
                continue
            self.assertFalse(many)
            seen[answer[0]] += 1
            if answer[0] == "run":
                self.assertEqual(run(program, f, *answer[1:], most)[0][0], "untrue")
                continue
            self.assertEqual(answer[1], all_ways(program, f, most, 17)[1])
            for run_again in range(8):
                numbers, rows = [chance.randint(-3, 3) for x in told[2]], [some_stairs(chance) for r in told[3]]
                end = run(program, f, numbers, rows, [chance.randint(-3, 3) for pick in range(9)], most)[0]
                self.assertNotEqual(end[0], "untrue", (program, f, most))
        self.assertGreater(min(seen["run"], seen["none"]), 200, seen)
        self.assertGreater(seen["many"], 5, seen)

    def test_turns_one_too_few(self):
        """With the fewest turns by which a run is told it ends untrue just with the last one, or behind it."""
        chance = random.Random(62)
        seen = 0
        for again in range(400):
            program = some_program(chance)
            f = program[0][1]
            try:
                answers = [reached(program, f, most) for most in range(7)]
            except (TooMany, TooWide):
                continue
            words = [answer[0] for answer in answers]
            self.assertEqual(words, sorted(words))
            if "run" in words and words.index("run") > 0:
                most = words.index("run")
                end, used = run(program, f, *answers[most][1:], most)
                self.assertEqual((end[0], used), ("untrue", most))
                self.assertEqual(run(program, f, *answers[most][1:], most - 1), (("spent",), most - 1))
                seen += 1
        self.assertGreater(seen, 30)


if __name__ == "__main__":
    unittest.main()
