"""Promises 18 and 19, and 3 as far as runs go: programs run, with a look at every claim."""

import random
import unittest

from answers import asked, is_stairs, some_stairs
from outlineward.checks import check
from outlineward.deciding import decided
from outlineward.duties import duties
from outlineward.errors import TooMany, TooWide
from outlineward.judging import judged
from outlineward.reader import read
from outlineward.running import run
from programs import BROKEN, KEPT
from samples import TRUE, ZERO, at, branch, each, least, loop, num, proc, rise
from some_programs import some_program

FAR = 10 ** 18
FALSE = least(ZERO, ZERO, 1)
BARE = (0, ())
UP = ("set", "k", num("k"), 1)


class Runs(unittest.TestCase):
    def ends(self, end, used, program, numbers=(), rows=(), inputs=(), most=2000, f=None):
        """The run, of the first procedure or of f, ends so, with so many turns."""
        check(program)
        name = f or program[0][1]
        answer = asked(self, run, program, name, list(numbers), list(rows), list(inputs), most)
        self.assertIs(type(answer), tuple)
        self.assertEqual(answer, (end, used))
        if end[0] == "done":
            self.assertIs(type(answer[0][2]), list)
            self.assertTrue(all(is_stairs(row) for row in answer[0][2]))

    def of_body(self, end, used, body, **further):
        """Likewise, of a procedure f without params, with the row r."""
        self.ends(end, used, (proc("f", rows=["r"], body=body),), rows=[BARE], **further)


class Plain(Runs):
    def test_nothing(self):
        for most in [0, 1, 2000]:
            self.ends(("done", 0, []), 0, (proc("f"),), most=most)
        rows = [(3, ()), (4, ((1, 2),))]
        self.ends(("done", 0, rows), 0, (proc("f", ["x"], ["r", "s"]),), [7], rows)

    def test_set_put_and_any(self):
        body = [("any", "k"), ("put", "r", ("k", 1), num("k"), -2), ("set", "out", at("r", "k", 1), 5)]
        self.of_body(("done", 7, [(0, ((5, 2), (6, 0)))]), 3, body, inputs=[4])
        body += [("any", "k"), ("set", "out", num("k"), FAR)]
        self.of_body(("done", 2 * FAR, [(0, ((5, 2), (6, 0)))]), 5, body, inputs=[4, FAR])

    def test_out_and_others_are_nought_at_the_beginning(self):
        body = [("claim", least(num("out"), num("k"))), ("claim", least(num("k"), num("out")))]
        body += [("set", "out", num("z"), 3)]
        self.of_body(("done", 3, [BARE]), 3, body)

    def test_params_and_rows_in_their_order(self):
        f = proc("f", ["x", "y"], ["r", "s"], body=[
            ("set", "out", num("x"), 1), ("put", "r", ("", 0), num("x"), 0), ("put", "s", ("", 0), num("y"), 0),
        ])
        rows = [(5, ()), (6, ())]
        self.ends(("done", 11, [(5, ((0, 10), (1, 5))), (6, ((0, 20), (1, 6)))]), 3, (f,), [10, 20], rows)

    def test_turns(self):
        body = [("any", "k"), ("set", "out", num("k"), 0), ("claim", TRUE)]
        for most in [0, 1, 2]:
            self.of_body(("spent",), most, body, inputs=[1], most=most)
        for most in [3, 4, 2000]:
            self.of_body(("done", 1, [BARE]), 3, body, inputs=[1], most=most)

    def test_inputs_left_over_and_lacking(self):
        body = [("any", "k"), ("any", "out")]
        self.of_body(("done", 2, [BARE]), 2, body, inputs=[1, 2, 3, 4])
        self.of_body(("done", 2, [BARE]), 2, body, inputs=[1, 2])
        self.of_body(("asks",), 2, body, inputs=[1])
        self.of_body(("asks",), 1, body, inputs=[])
        # Where no turn is left, it isn't asked.
        self.of_body(("spent",), 1, body, inputs=[1], most=1)
        self.of_body(("spent",), 0, body, inputs=[], most=0)
        self.of_body(("asks",), 2, body, inputs=[1], most=2)

    def test_other_procedures(self):
        program = (proc("f", body=[("set", "out", ZERO, 1)]), proc("g", body=[("set", "out", ZERO, 2)]))
        self.ends(("done", 1, []), 1, program)
        self.ends(("done", 2, []), 1, program, f="g")


class Needs(Runs):
    F = proc("f", ["x"], ["r"], [least(num("x"), ZERO, 1), each(("", 0), ("x", 0), "r"), least(num("x"), ZERO, 2)],
             [FALSE], [("claim", FALSE)])

    def test_unmet_ahead_of_all(self):
        for most in [0, 5]:
            self.ends(("unmet", 0), 0, (self.F,), [0], [BARE], most=most)
            self.ends(("unmet", 0), 0, (self.F,), [0], [(-1, ())], most=most)
            self.ends(("unmet", 1), 0, (self.F,), [1], [(-1, ())], most=most)
            self.ends(("unmet", 1), 0, (self.F,), [1], [(0, ((1, -1), (2, 0)))], most=most)
            self.ends(("unmet", 2), 0, (self.F,), [1], [(0, ((2, -1), (3, 0)))], most=most)
        self.ends(("untrue", "f", "claim", (0,), 0), 1, (self.F,), [2], [BARE])
        self.ends(("spent",), 0, (self.F,), [2], [BARE], most=0)


class Claims(Runs):
    def test_untrue(self):
        self.of_body(("untrue", "f", "claim", (1,), 0), 2, [("claim", TRUE), ("claim", FALSE), ("claim", FALSE)])
        self.of_body(("spent",), 1, [("claim", TRUE), ("claim", FALSE)], most=1)
        self.of_body(("untrue", "f", "claim", (1,), 0), 2, [("claim", TRUE), ("claim", FALSE)], most=2)

    def test_each_and_rise(self):
        fill = [("put", "r", ("", k), ZERO, k) for k in range(3)]
        self.of_body(("done", 0, [(0, ((1, 1), (2, 2), (3, 0)))]), 4, fill + [("claim", rise(("", -9), ("", 2), "r"))])
        self.of_body(("untrue", "f", "claim", (3,), 0), 4, fill + [("claim", rise(("", -9), ("", 3), "r"))])
        fill.append(("claim", each(("", 1), ("", 3), "r", ">=", ZERO, 1)))
        self.of_body(("untrue", "f", "claim", (3,), 0), 4, fill)

    def test_gives(self):
        gives = [least(num("out"), ZERO), least(num("out"), num("x")), least(num("out"), num("x"), 1)]
        f = proc("f", ["x"], [], [], gives, [("set", "out", ZERO, 5)])
        self.ends(("done", 5, []), 1, (f,), [4])
        self.ends(("untrue", "f", "give", (), 2), 1, (f,), [5])
        self.ends(("untrue", "f", "give", (), 1), 1, (f,), [6])
        self.ends(("untrue", "f", "give", (), 0), 0, (proc("f", [], [], [], [FALSE]),), most=0)

    def test_gives_take_no_turn(self):
        f = proc("f", [], [], [], [least(num("out"), ZERO, 5)], [("set", "out", ZERO, 5)])
        self.ends(("done", 5, []), 1, (f,), most=1)
        self.ends(("spent",), 0, (f,), most=0)


class Ifs(Runs):
    def body(self, x, *claims):
        return [("set", "k", ZERO, x), branch(least(num("k"), ZERO, 3), [UP, claims[0]], [claims[1]]), claims[2]]

    def test_both_ways(self):
        true, false = ("claim", TRUE), ("claim", FALSE)
        for k, used, path in [(3, 4, (1, 0, 1)), (4, 4, (1, 0, 1)), (2, 3, (1, 1, 0))]:
            in_first = path[1] == 0
            self.of_body(("done", 0, [BARE]), used + 1, self.body(k, true, true, true))
            body = self.body(k, false, true, true) if in_first else self.body(k, true, false, true)
            self.of_body(("untrue", "f", "claim", path, 0), used, body)
            self.of_body(("spent",), used - 1, body, most=used - 1)
            self.of_body(("untrue", "f", "claim", (2,), 0), used + 1, self.body(k, true, true, false))

    def test_empty_bodies(self):
        self.of_body(("done", 0, [BARE]), 1, [branch(TRUE)])
        self.of_body(("done", 0, [BARE]), 1, [branch(FALSE)])
        self.of_body(("spent",), 0, [branch(FALSE)], most=0)

    def test_paths_in_ifs_within_loops(self):
        inner = branch(least(num("k"), ZERO, 2), [UP, UP, ("claim", FALSE)], [UP])
        body = [UP, loop(least(ZERO, num("k"), -9), [], [("claim", TRUE), branch(FALSE, [], [inner])])]
        # 1 UP, 1 come, 2 asked, then claim, if, if, and UP; asked again, claim, if, if, UP, UP, claim.
        self.of_body(("untrue", "f", "claim", (1, 0, 1, 1, 0, 0, 2), 0), 3 + 4 + 1 + 6, body)


class Loops(Runs):
    def counting(self, n, keeps=(), body=(UP,)):
        return [loop(least(ZERO, num("k"), 1 - n), keeps, body)]

    def test_turns(self):
        """Come to, asked, and a turn for each statement and each time it is asked again."""
        for n in [0, 1, 2, 5]:
            used = 2 + 2 * n
            self.of_body(("done", 0, [BARE]), used, self.counting(n))
            self.of_body(("done", 0, [BARE]), used, self.counting(n), most=used)
            for most in range(used):
                self.of_body(("spent",), most, self.counting(n), most=most)

    def test_no_body(self):
        self.of_body(("done", 0, [BARE]), 2, [loop(FALSE)])
        self.of_body(("spent",), 77, [loop(TRUE)], most=77)
        self.of_body(("spent",), 2000, [loop(TRUE)])

    def test_keeps_behind_the_turn_and_ahead_of_the_least(self):
        keeps = [TRUE, FALSE, FALSE]
        for condition in [TRUE, FALSE]:
            self.of_body(("untrue", "f", "enter", (0,), 1), 2, [loop(condition, keeps, [UP])])
            self.of_body(("spent",), 1, [loop(condition, keeps, [UP])], most=1)

    def test_enter_the_first_time_keep_then(self):
        for bound in range(4):
            keeps = [TRUE, least(ZERO, num("k"), -bound)]
            used = 2 + 2 * (bound + 1)
            self.of_body(("untrue", "f", "keep", (0,), 1), used, self.counting(9, keeps))
            self.of_body(("spent",), used - 1, self.counting(9, keeps), most=used - 1)
            # Held the last time, too, when the least is untrue.
            self.of_body(("untrue", "f", "keep", (0,), 1), used, self.counting(bound + 1, keeps))
            self.of_body(("done", 0, [BARE]), used - 2, self.counting(bound, keeps))

    def test_enter_each_time_that_it_is_come_to(self):
        """The inner loop's keep is true at the first coming, untrue at the second."""
        inner = loop(FALSE, [least(ZERO, num("k"))])
        body = [loop(least(ZERO, num("k"), -8), [], [inner, UP])]
        self.of_body(("untrue", "f", "enter", (0, 0, 0), 0), 2 + 2 + 1 + 1 + 2, body)
        # Here it breaks within the second coming, behind a round.
        inner = loop(least(num("j"), ZERO, 1), [least(ZERO, num("k"), -1)], [UP, ("set", "j", ZERO, 0)])
        body = [loop(TRUE, [], [UP, ("set", "j", ZERO, 1), inner])]
        self.of_body(("untrue", "f", "keep", (0, 0, 2), 0), 2 + 2 + 2 + 3, body)
        inner = loop(least(num("j"), ZERO, 1), [least(ZERO, num("k"), -2)], [UP, ("set", "j", ZERO, 0)])
        body = [loop(TRUE, [], [UP, ("set", "j", ZERO, 1), inner])]
        self.of_body(("untrue", "f", "enter", (0, 0, 2), 0), 2 + 2 + 2 + 3 + 1 + 2 + 2, body)

    def test_the_paths_of_loops(self):
        body = [UP, branch(FALSE, [], [UP, loop(TRUE, [least(ZERO, num("k"), -2)], [UP])])]
        self.of_body(("untrue", "f", "keep", (1, 1, 1), 0), 1 + 1 + 1 + 2 + 2, body)


class Calls(Runs):
    def test_out_and_turns(self):
        program = (
            proc("f", ["x"], body=[("call", "k", "g", ("x",), ()), ("set", "out", num("k"), 1)]),
            proc("g", ["y"], body=[("set", "out", num("y"), 10)]),
        )
        self.ends(("done", 16, []), 3, program, [5])
        for most in range(3):
            self.ends(("spent",), most, program, [5], most=most)

    def test_needs_behind_the_calls_turn(self):
        g = proc("g", ["y"], ["s"], [least(num("y"), ZERO), least(at("s", "y"), ZERO, 1)], [], [("claim", FALSE)])
        body = [UP, branch(TRUE, [loop(TRUE, [], [UP, ("call", "k", "g", ("x",), ("r",))])])]
        program = (proc("f", ["x"], ["r"], body=body), g)
        self.ends(("untrue", "f", "need", (1, 0, 0, 0, 1), 0), 6, program, [-1], [BARE])
        self.ends(("untrue", "f", "need", (1, 0, 0, 0, 1), 1), 6, program, [3], [(1, ((3, 0), (4, 1)))])
        self.ends(("spent",), 5, program, [-1], [BARE], most=5)
        self.ends(("untrue", "g", "claim", (0,), 0), 7, program, [3], [(0, ((3, 1), (4, 0)))])

    def test_gives_of_the_called_one_and_of_the_first(self):
        g = proc("g", ["y"], [], [], [least(num("out"), num("y")), least(num("y"), num("out"))], [("any", "out")])
        f = proc("f", ["x"], [], [], [least(num("out"), ZERO, 7)], [("call", "out", "g", ("x",), ())])
        self.ends(("done", 7, []), 2, (f, g), [7], inputs=[7])
        self.ends(("untrue", "g", "give", (), 0), 2, (f, g), [7], inputs=[6])
        self.ends(("untrue", "g", "give", (), 1), 2, (f, g), [7], inputs=[8])
        self.ends(("untrue", "f", "give", (), 0), 2, (f, g), [6], inputs=[6])
        self.ends(("asks",), 2, (f, g), [6])

    def test_args_alike_and_x_among_them(self):
        g = proc("g", ["x", "y"], body=[("claim", least(num("x"), num("y"))), ("set", "out", num("x"), 1)])
        body = [("any", "k"), ("call", "k", "g", ("k", "k"), ()), ("set", "out", num("k"), 0)]
        self.ends(("done", 8, []), 5, (proc("f", body=body), g), inputs=[7])

    def test_numbers_of_the_caller_stay(self):
        g = proc("g", ["y"], body=[("set", "k", num("y"), 1), ("set", "z", ZERO, 9), ("set", "out", num("k"), 1)])
        body = [("set", "k", ZERO, 5), ("call", "out", "g", ("k",), ()), ("claim", least(ZERO, num("z")))]
        body += [("claim", least(num("k"), ZERO, 5)), ("claim", least(ZERO, num("k"), -5))]
        self.ends(("done", 7, []), 8, (proc("f", body=body), g))

    def test_others_are_nought_at_each_call_anew(self):
        anew = [("claim", least(ZERO, num("k"))), ("claim", least(ZERO, num("out")))]
        g = proc("g", body=anew + [UP, ("set", "out", num("k"), 3)])
        body = [("call", "k", "g", (), ()), ("call", "out", "g", (), ())]
        self.ends(("done", 4, []), 10, (proc("f", body=body), g))

    def test_what_is_done_to_rows_is_done(self):
        g = proc("g", ["y"], ["r", "s"], body=[("put", "r", ("", 0), num("y"), 0), ("put", "s", ("", 1), num("y"), 1)])
        body = [("call", "k", "g", ("x",), ("s", "r")), ("set", "out", at("s"), 0)]
        f = proc("f", ["x"], ["r", "s", "t"], body=body)
        told = [(0, ((1, 8), (2, 0))), (0, ((0, 7), (1, 0))), (5, ())]
        self.ends(("done", 7, told), 4, (f, g), [7], [BARE, BARE, (5, ())])
        twice = proc("h", ["x"], ["r", "s", "t"], body=[("call", "k", "f", ("x",), ("t", "s", "r"))])
        told = [(5, ()), (0, ((0, 7), (1, 0))), (0, ((1, 8), (2, 0)))]
        self.ends(("done", 0, told), 5, (twice, f, g), [7], [(5, ()), BARE, BARE])

    def test_a_row_that_is_not_handed_on_stays(self):
        g = proc("g", [], ["r"], body=[("put", "r", ("", 0), ZERO, 1)])
        f = proc("f", [], ["r", "s"], body=[("call", "k", "g", (), ("s",)), ("claim", least(ZERO, at("r")))])
        self.ends(("done", 0, [BARE, (0, ((0, 1), (1, 0)))]), 3, (f, g), [], [BARE, BARE])

    def test_inputs_go_on_within_calls(self):
        g = proc("g", body=[("any", "out")])
        body = [("any", "k"), ("call", "j", "g", (), ()), ("any", "out"), ("claim", least(num("out"), num("j"), 2))]
        body += [("claim", least(num("j"), num("k"), 1))]
        self.ends(("done", 5, []), 6, (proc("f", body=body), g), inputs=[2, 3, 5])
        self.ends(("untrue", "f", "claim", (3,), 0), 5, (proc("f", body=body), g), inputs=[2, 3, 4])
        self.ends(("untrue", "f", "claim", (4,), 0), 6, (proc("f", body=body), g), inputs=[2, 2, 5])

    def test_of_itself(self):
        """The sum of 1 to x."""
        text = """\
proc sum x ; r
  need x >= 0
  give out >= x
  if x >= 1
    k := x - 1
    call out sum k ; r
    r[x] := out
    j := 0
    while x >= j + 1
      j := j + 1
      out := out + 1
    end
  else
  end
back"""
        program = read(text)
        rows = [(0, ((2, 1), (3, 3), (4, 6), (5, 0)))]
        self.ends(("done", 10, rows), 4 * 7 + 3 * (1 + 2 + 3 + 4) + 1, program, [4], [BARE])
        self.ends(("unmet", 0), 0, program, [-1], [BARE])


class Deep(Runs):
    def chain(self, needs=()):
        body = [branch(least(num("x"), ZERO, 1), [("set", "k", num("x"), -1), ("call", "out", "f", ("k",), ())], [
            ("set", "out", ZERO, 1),
        ])]
        return (proc("f", ["x"], [], needs, [], body),)

    def test_twenty_and_twenty_one(self):
        for x in [0, 1, 19, 20]:
            self.ends(("done", 1, []), 3 * x + 2, self.chain(), [x])
        self.ends(("deep",), 3 * 21, self.chain(), [21])
        self.ends(("deep",), 3 * 21, self.chain(), [22])
        self.ends(("spent",), 3 * 21 - 1, self.chain(), [22], most=3 * 21 - 1)

    def test_behind_its_needs(self):
        program = self.chain([least(num("x"), ZERO, 5)])
        # x is 25, 24, .. 5 twenty calls deep; the next one would hand in 4.
        self.ends(("untrue", "f", "need", (0, 0, 1), 0), 3 * 21, program, [25])
        self.ends(("deep",), 3 * 21, program, [26])
        self.ends(("untrue", "f", "need", (0, 0, 1), 0), 3 * 20, program, [24])

    def test_calls_that_came_back_do_not_count(self):
        f, g = proc("f", body=[("call", "k", "g", (), ())] * 40), proc("g", body=[("call", "k", "h", (), ())])
        self.ends(("done", 0, []), 80, (f, g, proc("h")))

    def test_without_end(self):
        program = (proc("f", body=[("call", "k", "f", (), ())]),)
        self.ends(("deep",), 21, program)
        self.ends(("spent",), 20, program, most=20)
        self.ends(("deep",), 21, program, most=21)

    def test_deep_bodies_deep_calls(self):
        body = [("call", "k", "f", (), ())]
        for around in range(4):
            body = [branch(FALSE, [], body)]
        self.ends(("deep",), 21 * 5, (proc("f", body=body),))


class Whole(Runs):
    def some_run(self, chance, program, most):
        told = chance.choice(program)
        numbers = [chance.randint(-3, 4) for x in told[2]]
        rows = [some_stairs(chance) for r in told[3]]
        inputs = [chance.randint(-3, 3) for again in range(chance.randint(0, 6))]
        return run(program, told[1], numbers, rows, inputs, most)

    def test_kept_programs_never_end_untrue(self):
        chance = random.Random(41)
        seen = {}
        for text in KEPT:
            program = read(text)
            self.assertEqual(judged(program)[0], "kept")
            for again in range(150):
                end, used = self.some_run(chance, program, chance.choice([3, 10, 100, 2000]))
                seen[end[0]] = seen.get(end[0], 0) + 1
                self.assertNotEqual(end[0], "untrue", (text, end))
                self.assertLessEqual(used, 2000)
        self.assertGreater(min(seen[end] for end in ["done", "unmet", "spent"]), 50, seen)

    def test_a_run_that_ends_untrue_names_a_duty_that_is_not_kept(self):
        chance = random.Random(42)
        seen = {"kept": 0, "untrue": 0}
        for again in range(1500):
            program = some_program(chance)
            if again < len(BROKEN):
                program = read(BROKEN[again][0])
            try:
                answer, found = judged(program), duties(program)
            except (TooMany, TooWide):
                continue
            for run_again in range(6):
                end, used = self.some_run(chance, program, chance.choice([5, 40]))
                if answer[0] == "kept":
                    self.assertNotEqual(end[0], "untrue", program)
                    seen["kept"] += 1
                elif end[0] == "untrue":
                    named = [duty for duty in found if duty[:4] == end[1:]]
                    self.assertTrue(any(self.broken(duty) for duty in named), (program, end))
                    seen["untrue"] += 1
        self.assertGreater(min(seen.values()), 500, seen)

    def broken(self, duty):
        try:
            return decided(duty[4], duty[5])[0] == "stand"
        except TooWide:
            return True

    def test_new_lists_and_the_same_answer(self):
        chance = random.Random(43)
        for again in range(100):
            program = some_program(chance)
            told = program[0]
            handed = ([chance.randint(-3, 3) for x in told[2]], [some_stairs(chance) for r in told[3]], [1, -2, 3])
            end, used = asked(self, run, program, told[1], *handed, 30)
            if end[0] == "done":
                self.assertTrue(all(is_stairs(row) for row in end[2]))


if __name__ == "__main__":
    unittest.main()
