"""Promises 20 and 3: of a menu the greatest set of claims that holds at a loop."""

import itertools
import random
import unittest

from answers import asked, hold_start
from outlineward.checks import check
from outlineward.deciding import decided
from outlineward.duties import duties
from outlineward.errors import TooWide
from outlineward.finding import greatest
from outlineward.reader import read, read_claim
from samples import ZERO, at, branch, each, least, loop, num, proc
from some_programs import some_claim

COPY = """\
proc copy n ; r s
  need n >= 0
  while n >= i + 1
    s[i] := r[i]
    i := i + 1
  end
back"""

MENU = """\
i >= 1
i >= 0
n >= i + 1
n >= i
each 0 to i - 1 s >= r[] + 1
each 0 to i - 1 s >= r[]
each 0 to i - 1 s <= r[]
each 0 to i s <= r[]
rise 0 to i - 1 s
0 >= i"""


def inner_bodies(statement):
    return {"if": statement[2:], "while": statement[3:]}.get(statement[0], ())


def statement_at(body, path):
    if len(path) == 1:
        return body[path[0]]
    return statement_at(inner_bodies(body[path[0]])[path[1]], path[2:])


def changed_body(body, path, keeps):
    """The body, with these as the keeps of the loop at the path."""
    k, statement = path[0], body[path[0]]
    if len(path) == 1:
        new = ("while", statement[1], tuple(keeps), statement[3])
    else:
        inner = changed_body(inner_bodies(statement)[path[1]], path[2:], keeps)
        if statement[0] == "while":
            new = statement[:3] + (inner,)
        else:
            new = statement[:2] + ((inner, statement[3]) if path[1] == 0 else (statement[2], inner))
    return body[:k] + (new,) + body[k + 1:]


def loop_duties(program, f, path, further):
    """The enter and keep duties of the loop's further keeps, each with its number among these."""
    told = []
    for one in program:
        if one[1] == f:
            own = statement_at(one[6], path)[2]
            one = one[:6] + (changed_body(one[6], path, own + tuple(further)),)
        told.append(one)
    found = []
    for duty in duties(tuple(told)):
        if duty[0] == f and duty[1] in ("enter", "keep") and duty[2] == path and duty[3] >= len(own):
            found.append((duty[3] - len(own), duty))
    return found


class Finding(unittest.TestCase):
    def told(self, program, f, path, menu):
        """The answer, held against the words by themselves."""
        check(program)
        answer = asked(self, greatest, program, f, path, menu)
        self.assertIs(type(answer), tuple)
        left, out = answer
        self.assertEqual([type(left), type(out)], [list, list])
        self.assertEqual(left, sorted(left))
        self.assertEqual(sorted(left + [taken[0] for taken in out]), list(range(len(menu))))
        still = list(range(len(menu)))
        for number, straight, start in out:
            found = loop_duties(program, f, path, [menu[n] for n in still])
            # All ahead of it in the menu's order are kept; it isn't.
            for k, duty in found:
                if still[k] < number:
                    self.assertEqual(decided(duty[4], duty[5])[0], "kept")
            own = [duty for k, duty in found if still[k] == number]
            self.assertIn(straight, [duty[4] for duty in own])
            hold_start(self, straight, menu[number], start)
            still.remove(number)
        self.assertEqual(still, left)
        for k, duty in loop_duties(program, f, path, [menu[n] for n in left]):
            self.assertEqual(decided(duty[4], duty[5])[0], "kept")
        return answer

    def finds(self, expected, program, f, path, menu):
        self.assertEqual(self.told(program, f, path, menu)[0], expected)


class Straight(Finding):
    def test_right_and_wrong_ones(self):
        menu = [read_claim(text) for text in MENU.split("\n")]
        left, out = self.told(read(COPY), "copy", (0,), menu)
        self.assertEqual(left, [1, 3, 5, 6])
        self.assertEqual([taken[0] for taken in out], [0, 2, 4, 7, 9, 8])

    def test_in_any_order(self):
        chance = random.Random(51)
        menu = [read_claim(text) for text in MENU.split("\n")]
        right = [menu[n] for n in (1, 3, 5, 6)]
        for again in range(12):
            some = chance.sample(menu, len(menu))
            self.finds([n for n, claim in enumerate(some) if claim in right], read(COPY), "copy", (0,), some)

    def test_no_menu(self):
        self.assertEqual(asked(self, greatest, read(COPY), "copy", (0,), []), ([], []))

    def test_all_and_none(self):
        self.finds([0, 1], read(COPY), "copy", (0,), [least(num("i"), ZERO), least(num("n"), num("i"))])
        self.finds([], read(COPY), "copy", (0,), [least(num("i"), ZERO, 1), least(num("n"), ZERO, 1)])

    def test_one_that_hangs_on_another(self):
        """n at least i + 1 in the loop alone; k at least i only as j is at least i."""
        body = [loop(least(num("n"), ZERO), [], [("set", "k", num("j"), 0), ("set", "j", num("j"), 1)])]
        program = (proc("f", ["n"], body=body),)
        one, two = least(num("j"), ZERO), least(num("k"), ZERO)
        self.finds([0, 1], program, "f", (0,), [two, one])
        self.finds([], program, "f", (0,), [two])
        self.finds([0], program, "f", (0,), [one])
        # The wrong one goes first, then what hung on it.
        three, four = least(num("j"), ZERO, 1), least(num("k"), num("j"))
        left, out = self.told(program, "f", (0,), [two, four, three, one])
        self.assertEqual((left, [taken[0] for taken in out]), ([0, 3], [1, 2]))

    def test_the_last_one_falls_and_all_with_it(self):
        """Each one hangs on the next, the last one on nothing that holds."""
        names = "abcde"
        rows = [("set", x, num(y), 0) for x, y in zip(names, names[1:])] + [("any", "e")]
        program = (proc("f", ["n"], body=[loop(least(num("n"), ZERO), [], rows)]),)
        menu = [least(num(x), ZERO) for x in names]
        left, out = self.told(program, "f", (0,), menu)
        self.assertEqual((left, [taken[0] for taken in out]), ([], [4, 3, 2, 1, 0]))
        program = (proc("f", ["n"], body=[loop(least(num("n"), ZERO), [], rows[:4])]),)
        self.finds([0, 1, 2, 3, 4], program, "f", (0,), menu)

    def test_own_keeps_are_known_whether_kept_or_not(self):
        wrong = least(ZERO, ZERO, 1)
        body = [loop(least(num("n"), num("i"), 1), [wrong], [("set", "i", num("i"), -1)])]
        program = (proc("f", ["n"], body=body),)
        # Behind the head all is kept, but it isn't entered with i at least 1.
        menu = [least(num("i"), ZERO), least(num("i"), ZERO, 1), least(num("i"), ZERO, -3)]
        self.finds([0, 2], program, "f", (0,), menu)
        bare = (proc("f", ["n"], body=[loop(least(num("n"), num("i"), 1), [], [("set", "i", num("i"), -1)])]),)
        self.finds([], bare, "f", (0,), menu)

    def test_own_keeps_stand_ahead(self):
        own = [least(num("i"), ZERO), least(num("n"), num("i"))]
        body = [loop(least(num("n"), num("i"), 1), own, [("any", "k"), ("set", "i", num("i"), 1)])]
        menu = [least(num("k"), ZERO), least(num("i"), ZERO, -1)]
        left, out = self.told((proc("f", ["n"], [], [least(num("n"), ZERO)], [], body),), "f", (0,), menu)
        self.assertEqual(left, [1])
        straight = [("know", claim) for claim in own + menu + [least(num("n"), num("i"), 1)]] + [
            ("any", "k"), ("set", "i", num("i"), 1),
        ]
        self.assertEqual([taken[:2] for taken in out], [(0, straight)])

    def test_numbers_that_the_menu_alone_names(self):
        body = [loop(least(num("n"), ZERO), [], [])]
        self.finds([1], (proc("f", ["n"], body=body),), "f", (0,), [least(num("z"), ZERO, 1), least(num("z"), ZERO)])


class Elsewhere(Finding):
    LOOP = loop(least(num("n"), num("i"), 1), [least(num("i"), ZERO, -1)], [("set", "i", num("i"), 1)])
    MENU = [least(num("i"), ZERO, 1), least(num("i"), ZERO), least(num("n"), num("i")), least(num("n"), ZERO)]

    def test_in_an_ifs_bodies(self):
        positive = least(num("n"), ZERO, 1)
        program = (proc("f", ["n"], body=[("any", "k"), branch(positive, [("any", "k"), self.LOOP], [self.LOOP])]),)
        self.finds([1, 2, 3], program, "f", (1, 0, 1), self.MENU)
        self.finds([1], program, "f", (1, 1, 0), self.MENU)

    def test_in_a_loop(self):
        outer = loop(least(num("n"), ZERO, 3), [least(num("n"), ZERO, 2)], [("set", "i", ZERO, 1), self.LOOP])
        program = (proc("f", ["n"], body=[outer]),)
        self.finds([0, 1, 2, 3], program, "f", (0, 0, 1), self.MENU)
        # Behind the inner loop nothing is known but its keep, and that it is ended.
        self.finds([4], program, "f", (0,), self.MENU + [least(num("i"), ZERO, -1)])

    def test_behind_several_ways(self):
        body = [branch(least(num("n"), ZERO), [("set", "i", ZERO, 2)], [("set", "i", ZERO, c)]) for c in (0, 1)]
        program = (proc("f", ["n"], body=body[:1] + [self.LOOP]),)
        self.finds([1], program, "f", (1,), self.MENU)
        program = (proc("f", ["n"], body=body[1:] + [self.LOOP]),)
        self.finds([0, 1], program, "f", (1,), self.MENU)

    def test_several_ways_through_the_loop(self):
        inner = branch(least(num("k"), ZERO), [("set", "i", num("i"), 1)], [("set", "i", num("i"), 2)])
        body = [loop(least(num("n"), num("i"), 1), [], [inner])]
        program = (proc("f", ["n"], [], [least(num("n"), ZERO)], [], body),)
        self.finds([1, 3], program, "f", (0,), self.MENU)

    def test_calls(self):
        g = proc("g", ["x"], ["r"], [], [least(num("out"), num("x"), 1)], [("set", "out", num("x"), 1)])
        body = [loop(least(num("n"), num("i"), 1), [], [("call", "i", "g", ("i",), ("r",))])]
        program = (g, proc("f", ["n"], ["r"], [least(num("n"), ZERO)], [], body))
        self.finds([1, 3], program, "f", (0,), self.MENU)
        menu = [least(num("i"), ZERO, -5), each(("", 0), ("", 0), "r", "<=", ("row", "r"), -1)]
        self.finds([0], program, "f", (0,), menu)

    def test_other_loops_do_not_matter(self):
        """The keeps of others aren't kept, and have the numbers that the menu's claims have here."""
        wrong = loop(least(num("n"), num("i"), 1), [least(num("i"), ZERO, 1)] * 4, [("any", "i")])
        bare = loop(least(num("n"), num("i"), 1), [], [("set", "i", num("i"), 1)])
        for body, path in [([bare, wrong], (0,)), ([wrong, ("set", "i", ZERO, 0), bare], (2,))]:
            program = (proc("f", ["n"], body=body),)
            self.finds([0], program, "f", path, [least(num("i"), ZERO), least(num("n"), num("i"))])
        around = loop(least(num("n"), num("j"), 1), [], [wrong, ("set", "j", num("j"), 1)])
        program = (proc("f", ["n"], body=[around]),)
        self.finds([0], program, "f", (0,), [least(num("n"), num("n")), least(num("j"), ZERO)])

    def test_other_procedures_do_not_matter(self):
        many = proc("many", ["x"], body=[branch(least(num("x"), ZERO))] * 5)
        broken = proc("broken", body=[("claim", least(ZERO, ZERO, 1))])
        told = proc("f", ["n"], body=[self.LOOP])
        self.finds([1], (told,), "f", (0,), self.MENU)
        self.assertEqual(greatest((broken, told, many), "f", (0,), self.MENU), greatest((told,), "f", (0,), self.MENU))


class Wide(Finding):
    def test_wherever_a_case_is_decided(self):
        body = [loop(least(num("n"), ZERO), [], [("any", "k")])]
        program = (proc("f", ["n", "a", "b", "c"], ["r"], body=body),)
        keeps = [each((x, 0), (x, -1), "r") for x in "abc"]
        self.finds([0, 1], program, "f", (0,), keeps[:2])
        self.assertRaises(TooWide, greatest, program, "f", (0,), keeps)
        # One that isn't kept ahead of it is taken out, but then it is too wide.
        self.assertRaises(TooWide, greatest, program, "f", (0,), [least(num("k"), ZERO)] + keeps)
        self.assertRaises(TooWide, greatest, program, "f", (0,), keeps + [least(num("k"), ZERO)])

    def test_none_is_decided_for_no_menu(self):
        body = [("set", "k", at("r", "", d), 0) for d in range(6)] + [loop(least(num("n"), ZERO))]
        program = (proc("f", ["n"], ["r"], body=body),)
        self.assertEqual(greatest(program, "f", (6,), []), ([], []))
        self.assertRaises(TooWide, greatest, program, "f", (6,), [least(num("n"), num("n"))])


class Many(Finding):
    def holds_together(self, program, path, some):
        return all(decided(duty[4], duty[5])[0] == "kept" for k, duty in loop_duties(program, "f", path, some))

    def test_each_set_that_holds_together_is_among_those_left(self):
        chance = random.Random(52)
        seen = {}
        for again in range(150):
            body = [("set", "i", ZERO, chance.randint(0, 1))]
            condition = least(num("n"), num(chance.choice("ij")), 1)
            keeps = [some_claim(chance, ["n", "i", "j"], ["r"])][:chance.choice([0, 0, 1])]
            rows = [chance.choice([
                ("set", "i", num("i"), 1), ("set", "j", num("i"), chance.randint(-1, 1)), ("any", "j"),
                ("put", "r", ("i", 0), num("j"), 0), ("set", "j", at("r", "i"), 0),
            ]) for row in range(chance.randint(1, 3))]
            program = (proc("f", ["n"], ["r"], [least(num("n"), ZERO)], [], body + [loop(condition, keeps, rows)]),)
            menu = []
            while len(menu) < 4:
                claim = some_claim(chance, ["n", "i", "j"], ["r"])
                if claim not in menu + keeps:
                    menu.append(claim)
            try:
                left, out = self.told(program, "f", (1,), menu)
                for size in range(5):
                    for some in itertools.combinations(range(4), size):
                        if self.holds_together(program, (1,), [menu[n] for n in some]):
                            self.assertLessEqual(set(some), set(left))
            except TooWide:
                continue
            seen[len(left)] = seen.get(len(left), 0) + 1
        self.assertGreater(sum(seen.values()), 80, seen)
        self.assertGreater(len(seen), 3, seen)


if __name__ == "__main__":
    unittest.main()
