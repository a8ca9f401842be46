"""Promises 3 and 17: programs judged."""

import random
import unittest

from answers import asked, hold_judged
from outlineward.checks import check
from outlineward.duties import duties
from outlineward.errors import TooMany, TooWide
from outlineward.judging import judged
from outlineward.reader import read
from programs import BROKEN, KEPT
from samples import FILL, ZERO, at, branch, each, least, loop, num, proc, rise
from some_programs import some_program

FALSE = least(ZERO, ZERO, 1)
READS = [("set", "k", at("r", "", d), 0) for d in range(6)]


class Judging(unittest.TestCase):
    def told(self, program):
        check(program)
        return hold_judged(self, program, asked(self, judged, program))


class Kept(Judging):
    def test_programs_with_a_loop(self):
        for text in KEPT:
            self.assertIsNone(self.told(read(text)), text)

    def test_no_procedures(self):
        self.assertEqual(asked(self, judged, ()), ("kept", []))

    def test_no_duties(self):
        self.assertEqual(asked(self, judged, (proc("f", body=[("any", "k")]), proc("g"))), ("kept", []))

    def test_several_procedures(self):
        program = read(KEPT[0] + "\n" + KEPT[3])
        self.assertEqual(len(judged(program)[1]), len(duties(program)))
        self.assertIsNone(self.told(program))

    def test_what_can_not_be_reached(self):
        never = least(num("x"), num("x"), 1)
        self.assertIsNone(self.told((proc("f", ["x"], [], [never], body=[("claim", FALSE)]),)))
        self.assertIsNone(self.told((proc("f", ["x"], body=[branch(never, [("claim", FALSE)])]),)))
        self.assertIsNone(self.told((proc("f", ["x"], body=[loop(never, [], [("claim", FALSE)])]),)))


class Broken(Judging):
    def test_one_off_or_left_out(self):
        for text, name in BROKEN:
            self.assertEqual(self.told(read(text)), name, text)

    def test_the_first_one(self):
        claims = [("claim", least(num("x"), num("x"), c)) for c in (0, -1, 1, 0, 2)]
        program = (proc("f", ["x"], body=claims), proc("g", body=[("claim", FALSE)]))
        self.assertEqual(asked(self, judged, program)[:2], ("broken", 2))
        self.assertEqual(self.told(program), ("f", "claim", (2,), 0))
        self.assertEqual(judged(program[::-1])[:2], ("broken", 0))

    def test_in_a_later_procedure(self):
        program = FILL[:1] + (proc("g", body=[("claim", FALSE)]),)
        self.assertEqual(judged(program)[:2], ("broken", 10))
        self.assertEqual(self.told(program), ("g", "claim", (0,), 0))

    def test_a_second_way(self):
        body = [branch(least(num("x"), ZERO), [("set", "out", num("x"), 0)], [("set", "out", ZERO, 0)])]
        program = (proc("f", ["x"], [], [], [least(num("out"), num("x"), 0), least(num("out"), num("x"), -1)], body),)
        self.assertIsNone(self.told(program))
        program = (proc("f", ["x"], [], [], [least(num("out"), ZERO), least(num("x"), num("out"))], body),)
        self.assertEqual(asked(self, judged, program)[:2], ("broken", 3))

    def test_numbers_are_nought_at_the_beginning_alone(self):
        body = [("claim", least(ZERO, num("k"))), loop(least(num("x"), ZERO)), ("claim", least(ZERO, num("k")))]
        self.assertEqual(self.told((proc("f", ["x"], body=body),)), ("f", "claim", (2,), 0))


class Refused(Judging):
    MANY = proc("many", ["x"], body=[branch(least(num("x"), ZERO))] * 5)
    WIDE = proc("wide", body=READS + [("claim", least(ZERO, ZERO))], rows=["r"])
    BROKEN = proc("broken", body=[("claim", FALSE)])

    def test_too_many_ahead_of_all_else(self):
        for program in [(self.MANY,), (self.BROKEN, self.MANY), (self.WIDE, self.MANY), (self.MANY, self.WIDE)]:
            check(program)
            self.assertRaises(TooMany, judged, program)

    def test_too_wide_ahead_of_a_broken_one_and_behind(self):
        check((self.WIDE, self.BROKEN))
        self.assertRaises(TooWide, judged, (self.WIDE,))
        self.assertRaises(TooWide, judged, (self.WIDE, self.BROKEN))
        self.assertRaises(TooWide, judged, FILL[:1] + (self.WIDE, self.BROKEN))
        self.assertEqual(asked(self, judged, (self.BROKEN, self.WIDE))[:2], ("broken", 0))
        body = READS[:5] + [("claim", least(num("k"), ZERO)), READS[5], ("claim", least(ZERO, ZERO))]
        program = (proc("f", rows=["r"], body=body),)
        self.assertEqual(self.told((proc("f", ["x"], ["r"], body=body),)), ("f", "claim", (5,), 0))
        self.assertRaises(TooWide, judged, (proc("f", rows=["r"], body=body[:5] + body[6:]),))
        self.assertEqual(judged(program)[:2], ("broken", 0))

    def test_what_is_wide_by_a_loops_keeps(self):
        # At first all of these say nothing; at the loop's head they have three ts, three us and the goal's own place.
        keeps = [each((y, 1), (z, 0), "r") for y, z in ["ab", "cd", "ef"]]
        self.assertRaises(TooWide, judged, (self.round(keeps),))
        self.assertIsNone(self.told((self.round(keeps[:2]),)))
        # Two ts, two us and the goal's own two; one u less.
        keeps = [rise(("a", 1), ("b", 0), "r"), rise(("c", 1), ("d", 0), "r")]
        self.assertRaises(TooWide, judged, (self.round(keeps),))
        keeps = [rise(("a", 1), ("b", 0), "r"), rise(("c", 1), ("b", 0), "r")]
        self.assertIsNone(self.told((self.round(keeps),)))

    def round(self, keeps):
        return proc("f", ["x"], ["r"], body=[loop(least(num("x"), ZERO), keeps, [("any", "k")])])


class Many(Judging):
    def test_many(self):
        chance = random.Random(31)
        seen = {"kept": 0, "broken": 0, "refused": 0}
        for again in range(1500):
            program = some_program(chance)
            check(program)
            try:
                answer = judged(program)
            except (TooMany, TooWide):
                seen["refused"] += 1
                continue
            hold_judged(self, program, answer)
            seen[answer[0]] += 1
        self.assertGreater(min(seen["kept"], seen["broken"]), 300, seen)


if __name__ == "__main__":
    unittest.main()
