"""Promises 11, 13, 14, 15: cases decided, each answer held against the document by itself."""

import random
import unittest

from answers import asked, hold_decided, some_start
from outlineward.book import width
from outlineward.claims import holds
from outlineward.deciding import decided
from outlineward.errors import OutlineError, TooWide
from outlineward.straight import through
from samples import TRUE, ZERO, at, each, least, num, rise

FAR = 10 ** 17
FALSE = least(ZERO, ZERO, 1)


def know(claim):
    return ("know", claim)


class Cases(unittest.TestCase):
    def told(self, rows, goal):
        answer = asked(self, decided, rows, goal)
        return hold_decided(self, rows, goal, answer)

    def kept(self, rows, goal):
        self.assertEqual(self.told(rows, goal), "kept", (rows, goal))

    def stands(self, rows, goal):
        self.assertEqual(self.told(rows, goal), "stand", (rows, goal))

    def either(self, is_kept, rows, goal):
        self.assertEqual(self.told(rows, goal), "kept" if is_kept else "stand", (rows, goal))


class Leasts(Cases):
    def test_nothing_known(self):
        self.kept([], TRUE)
        self.stands([], FALSE)
        self.stands([], least(num("x"), ZERO))
        self.kept([], least(num("x"), num("x")))
        self.kept([], least(num("x"), num("x"), -1))
        self.stands([], least(num("x"), num("x"), 1))

    def test_chains_at_below_and_above_the_edge(self):
        for links in [1, 2, 5, 20, 55]:
            names = [f"x{k}".translate(str.maketrans("0123456789", "abcdefghij")) for k in range(links + 1)]
            for step in [1, 0, -7, FAR]:
                rows = [know(least(num(a), num(b), step)) for a, b in zip(names, names[1:])]
                for more in [-1, 0, 1]:
                    goal = least(num(names[0]), num(names[-1]), links * step + more)
                    self.either(more <= 0, rows, goal)

    def test_against_nought(self):
        for c in [-1, 0, 1]:
            self.either(c <= 0, [know(least(num("x"), ZERO, 5))], least(num("x"), ZERO, 5 + c))
            self.either(c <= 0, [know(least(ZERO, num("x"), 5))], least(ZERO, num("x"), 5 + c))
        # 3 at most x, x at most 3.
        rows = [know(least(num("x"), ZERO, 3)), know(least(ZERO, num("x"), -3)), know(least(num("y"), num("x"), 1))]
        for c in [-1, 0, 1]:
            self.either(c <= 0, rows, least(num("y"), ZERO, 4 + c))

    def test_set(self):
        rows = [know(least(num("x"), num("y"), 2)), ("set", "x", num("x"), 3), ("set", "y", num("y"), -1)]
        for c in [-1, 0, 1]:
            self.either(c <= 0, rows, least(num("x"), num("y"), 6 + c))
        self.kept([("set", "x", ZERO, 7)], least(num("x"), ZERO, 7))
        self.stands([("set", "x", ZERO, 7)], least(num("x"), ZERO, 8))
        # Exchanged by way of z.
        rows = [("set", "z", num("x"), 0), ("set", "x", num("y"), 0), ("set", "y", num("z"), 0)]
        rows = [know(least(num("x"), num("y"), 1))] + rows
        self.kept(rows, least(num("y"), num("x"), 1))
        self.stands(rows, least(num("x"), num("y")))

    def test_any(self):
        rows = [know(least(num("x"), ZERO, 5)), ("any", "x")]
        self.stands(rows, least(num("x"), ZERO, 5))
        for c in [-1, 0, 1]:
            again = rows + [know(least(num("x"), ZERO, 7)), ("set", "y", num("x"), 1), ("any", "x")]
            self.either(c <= 0, again, least(num("y"), ZERO, 8 + c))
            self.stands(again, least(num("x"), ZERO, c))

    def test_what_is_known_can_not_be(self):
        for rows in [
            [know(FALSE)],
            [know(least(num("x"), num("y"), 1)), know(least(num("y"), num("x")))],
            [know(least(num("x"), ZERO, 5)), ("set", "y", num("x"), 0), ("any", "x"), know(least(ZERO, num("y"), -4))],
            [know(each(("", 0), ("", 3), "r", ">=", ZERO, 2)), know(least(ZERO, at("r", "", 3), -1))],
            [know(each(("i", 0), ("i", 0), "r", ">=", ZERO)), know(each(("i", 0), ("i", 0), "r", "<=", ZERO, -1))],
            [know(rise(("i", 0), ("j", 0), "r")), know(least(num("j"), num("i"), 1)),
             know(least(at("r", "i"), at("r", "j"), 1))],
        ]:
            goals = [FALSE, TRUE, least(num("z"), ZERO), each(("", 0), ("n", 0), "r"), rise(("i", 0), ("", 9), "s")]
            for goal in goals:
                if width(rows, goal) <= 5:
                    self.kept(rows, goal)


class Eaches(Cases):
    def test_read_just_within_and_just_beyond(self):
        for way, sign in [(">=", 1), ("<=", -1)]:
            for b, bound in [(ZERO, ZERO), (num("y"), num("y")), (("row", "s"), None)]:
                for place, inside in [(("i", 0), False), (("i", 1), True), (("n", -1), True), (("n", 0), False)]:
                    rows = [know(each(("i", 1), ("n", -1), "r", way, b, 4)), know(least(num("n"), num("i"), 2))]
                    read, other = ("at", "r", place), bound or ("at", "s", place)
                    for more in [-1, 0, 1]:
                        goal = least(read, other, 4 + more) if sign == 1 else least(other, read, -4 + more)
                        self.either(inside and more <= 0, rows, goal)

    def test_an_empty_reach_says_nothing(self):
        for c, inside in [(0, True), (-1, False)]:
            rows = [know(each(("", 3), ("", 3 + c), "r")), ("set", "x", at("r", "", 3), 0)]
            self.either(inside, rows, least(num("x"), ZERO))
            rows = [know(each(("i", 0), ("n", 0), "r")), know(least(num("n"), num("i"), c))]
            self.either(inside, rows, least(at("r", "i"), ZERO))

    def test_places_between(self):
        for c in [-1, 0, 1]:
            rows = [know(each(("", 0), ("n", 0), "r")), know(least(num("k"), ZERO, c)), know(least(num("n"), num("k")))]
            self.either(c >= 0, rows, least(at("r", "k"), ZERO))
            rows = [know(each(("", 0), ("n", 0), "r")), know(least(num("k"), ZERO)), know(least(num("n"), num("k"), c))]
            self.either(c >= 0, rows, least(at("r", "k"), ZERO))

    def test_goals_within_what_is_known(self):
        known = [know(each(("i", 0), ("n", 0), "r", "<=", num("y"), 2))]
        for low in [-1, 0, 1]:
            for high in [-1, 0, 1]:
                for more in [-1, 0, 1]:
                    goal = each(("i", low), ("n", high), "r", "<=", num("y"), 2 + more)
                    self.either(low >= 0 and high <= 0 and more >= 0, known, goal)

    def test_two_reaches_that_meet_or_do_not(self):
        for gap in [0, 1, 2, 3]:
            rows = [know(each(("", 0), ("i", -1), "r")), know(each(("i", gap - 1), ("n", 0), "r"))]
            self.either(gap <= 1, rows, each(("", 0), ("n", 0), "r"))

    def test_against_a_row_and_on(self):
        rows = [know(each(("", 0), ("n", 0), "r", ">=", ("row", "s"), 2))]
        rows += [know(each(("", 0), ("n", 0), "s", ">=", ("row", "q"), 3))]
        for c in [-1, 0, 1]:
            self.either(c <= 0, rows, each(("", 0), ("n", 0), "r", ">=", ("row", "q"), 5 + c))
            self.either(c <= 0, rows, each(("", 0), ("n", 0), "q", "<=", ("row", "r"), -5 - c))

    def test_a_row_against_itself(self):
        for c in [-1, 0, 1]:
            self.either(c <= 0, [], each(("", 0), ("n", 0), "r", ">=", ("row", "r"), c))
            self.either(c >= 0, [], each(("", 0), ("n", 0), "r", "<=", ("row", "r"), c))
            self.either(c > 0, [know(each(("i", 0), ("i", 0), "r", ">=", ("row", "r"), c))], FALSE)

    def test_written_just_behind_its_end(self):
        """r is at least y from 0 to n - 1, and n is put y and c more: then from 0 to n, by enough or by one less."""
        for way, sign in [(">=", 1), ("<=", -1)]:
            for c in [-1, 0, 1]:
                rows = [know(each(("", 0), ("n", -1), "r", way, num("y"))), ("put", "r", ("n", 0), num("y"), sign * c)]
                self.either(c >= 0, rows, each(("", 0), ("n", 0), "r", way, num("y")))
                self.stands(rows, each(("", 0), ("n", 1), "r", way, num("y")))
                self.stands(rows, each(("", -1), ("n", 0), "r", way, num("y")))
                self.kept(rows, each(("", 0), ("n", -1), "r", way, num("y")))

    def test_written_within(self):
        rows = [know(each(("", 0), ("n", 0), "r")), ("put", "r", ("k", 0), num("v"), 0)]
        self.stands(rows, each(("", 0), ("n", 0), "r"))
        self.kept(rows + [know(least(num("v"), ZERO))], each(("", 0), ("n", 0), "r"))
        self.kept(rows + [know(least(num("k"), num("n"), 1))], each(("", 0), ("n", 0), "r"))
        self.stands(rows + [know(least(num("k"), num("n")))], each(("", 0), ("n", 0), "r"))
        self.kept(rows + [know(least(ZERO, num("k"), 1))], each(("", 0), ("n", 0), "r"))
        self.stands(rows + [know(least(ZERO, num("k")))], each(("", 0), ("n", 0), "r"))

    def test_copied_on(self):
        """s is r up to i - 1, and s[i] becomes r[i] and c more."""
        for c in [-1, 0, 1]:
            rows = [know(each(("", 0), ("i", -1), "s", ">=", ("row", "r")))]
            rows += [("put", "s", ("i", 0), at("r", "i"), c), ("set", "i", num("i"), 1)]
            self.either(c >= 0, rows, each(("", 0), ("i", -1), "s", ">=", ("row", "r")))


class Rises(Cases):
    def test_read_at_two_places(self):
        rows = [know(rise(("i", 0), ("n", 0), "r"))]
        order = [know(least(num("k"), num("i"))), know(least(num("l"), num("k"))), know(least(num("n"), num("l")))]
        self.kept(rows + order, least(at("r", "l"), at("r", "k")))
        self.stands(rows + order, least(at("r", "k"), at("r", "l")))
        self.stands(rows + order, least(at("r", "l"), at("r", "k"), 1))
        for lacking in range(3):
            one = order[lacking][1]
            # One less than it takes: k at i - 1, l at k - 1, l at n + 1.
            for c, is_kept in [(0, True), (-1, False)]:
                weaker = order[:lacking] + [know(("least", one[1], one[2], c))] + order[lacking + 1:]
                self.either(is_kept, rows + weaker, least(at("r", "l"), at("r", "k")))

    def test_goals_within_what_is_known(self):
        rows = [know(rise(("i", 0), ("n", 0), "r"))]
        for low in [-1, 0, 1]:
            for high in [-1, 0, 1]:
                self.either(low >= 0 and high <= 0, rows, rise(("i", low), ("n", high), "r"))

    def test_one_place_and_none(self):
        self.kept([], rise(("i", 0), ("i", 0), "r"))
        self.kept([], rise(("i", 0), ("i", -1), "r"))
        self.stands([], rise(("i", 0), ("i", 1), "r"))
        self.kept([know(least(num("i"), num("n")))], rise(("i", 0), ("n", 0), "r"))
        self.stands([know(least(num("i"), num("n"), -1))], rise(("i", 0), ("n", 0), "r"))

    def test_two_places_of_the_goal(self):
        self.kept([know(least(at("r", "", 5), at("r", "", 4)))], rise(("", 4), ("", 5), "r"))
        self.stands([know(least(at("r", "", 5), at("r", "", 4), -1))], rise(("", 4), ("", 5), "r"))
        self.stands([know(least(at("r", "", 5), at("r", "", 4)))], rise(("", 4), ("", 6), "r"))

    def test_one_place_written_behind(self):
        """r rises up to n - 1, and r[n] becomes r[n - 1] and c more."""
        for c in [-1, 0, 1]:
            rows = [know(rise(("", 0), ("n", -1), "r")), ("put", "r", ("n", 0), at("r", "n", -1), c)]
            self.stands(rows, rise(("", 0), ("n", 1), "r"))
            self.either(c >= 0, rows, rise(("", 0), ("n", 0), "r"))
            self.kept(rows, rise(("", 0), ("n", -1), "r"))

    def test_one_place_written_within(self):
        known = know(rise(("k", 0), ("n", 0), "r"))
        for c in [-1, 0, 1]:
            rows = [known, ("put", "r", ("k", 0), at("r", "k", 1), c)]
            self.either(c <= 0, rows, rise(("k", 0), ("n", 0), "r"))
        for c, is_kept in [(0, True), (-1, False)]:
            self.either(is_kept, rows + [know(least(num("k"), num("n"), c))], rise(("k", 0), ("n", 0), "r"))

    def test_rise_and_each(self):
        rows = [know(rise(("i", 0), ("n", 0), "r")), know(least(at("r", "i"), ZERO, 3))]
        for c in [-1, 0, 1]:
            self.either(c <= 0, rows, each(("i", 0), ("n", 0), "r", ">=", ZERO, 3 + c))
            self.stands(rows, each(("i", 0), ("n", 0), "r", "<=", ZERO, 3 + c))


class Puts(Cases):
    def test_read_where_it_was_put(self):
        for c in [-1, 0, 1]:
            rows = [("put", "r", ("i", 1), num("v"), 3)]
            self.either(c <= 0, rows, least(at("r", "i", 1), num("v"), 3 + c))
            self.either(c >= 0, rows, least(num("v"), at("r", "i", 1), -3 - c))

    def test_a_put_that_just_misses_or_may_not(self):
        old = [("set", "x", at("r", "k"), 0), ("put", "r", ("i", 0), num("v"), 0)]
        goal = least(at("r", "k"), num("x"))
        self.stands(old, goal)
        for apart in [1, 0]:
            self.either(apart == 1, old + [know(least(num("k"), num("i"), apart))], goal)
            self.either(apart == 1, old + [know(least(num("i"), num("k"), apart))], goal)
        # Right there the old one is gone, the new one stands.
        alike = [know(least(num("k"), num("i"))), know(least(num("i"), num("k")))]
        self.stands(old + alike, goal)
        self.kept(old + alike, least(at("r", "k"), num("v")))
        self.kept(old + alike, least(num("v"), at("r", "k")))

    def test_places_with_numbers_alone(self):
        rows = [("set", "x", at("r", "", 4), 0), ("put", "r", ("", 5), ZERO, 9)]
        self.kept(rows, least(at("r", "", 4), num("x")))
        self.kept(rows, least(num("x"), at("r", "", 4)))
        self.kept(rows, least(at("r", "", 5), ZERO, 9))
        self.stands(rows, least(at("r", "", 6), ZERO, 9))

    def test_one_behind_the_other(self):
        rows = [("put", "r", ("i", 0), ZERO, 1), ("put", "r", ("j", 0), ZERO, 2), ("put", "r", ("i", 0), ZERO, 3)]
        self.kept(rows, least(at("r", "i"), ZERO, 3))
        self.stands(rows, least(at("r", "i"), ZERO, 4))
        self.kept(rows, least(at("r", "j"), ZERO, 2))
        self.stands(rows, least(at("r", "j"), ZERO, 3))
        self.stands(rows, least(ZERO, at("r", "j"), -2))

    def test_exchanged(self):
        rows = [("set", "x", at("r", "i"), 0), ("set", "y", at("r", "j"), 0)]
        rows += [("put", "r", ("i", 0), num("y"), 0), ("put", "r", ("j", 0), num("x"), 0)]
        for place, name in [("i", "y"), ("j", "x")]:
            self.kept(rows, least(at("r", place), num(name)))
            self.kept(rows, least(num(name), at("r", place)))
        # Elsewhere all is as before.
        rows = [("set", "z", at("r", "k"), 0)] + rows
        goal = least(at("r", "k"), num("z"))
        self.stands(rows, goal)
        self.stands(rows + [know(least(num("k"), num("i"), 1))], goal)
        self.kept(rows + [know(least(num("k"), num("i"), 1)), know(least(num("j"), num("k"), 1))], goal)

    def test_a_goal_of_each_kind_of_a_row_that_was_written(self):
        rows = [know(each(("", 0), ("n", 0), "r")), ("put", "r", ("n", 1), ZERO, 0), ("put", "r", ("n", 2), ZERO, -1)]
        self.kept(rows, each(("", 0), ("n", 1), "r"))
        self.stands(rows, each(("", 0), ("n", 2), "r"))
        self.kept(rows, each(("n", 1), ("n", 2), "r", "<=", ZERO))
        self.stands(rows, each(("n", 0), ("n", 2), "r", "<=", ZERO))
        self.stands(rows[1:], rise(("n", 1), ("n", 2), "r"))
        self.kept(rows, least(at("r", "n", 1), at("r", "n", 2), 1))
        self.stands(rows, least(at("r", "n", 1), at("r", "n", 2), 2))
        self.kept(rows[1:2] + [("put", "r", ("n", 2), ZERO, 1)], rise(("n", 1), ("n", 2), "r"))

    def test_two_rows(self):
        rows = [("put", "r", ("i", 0), num("v"), 0), ("put", "s", ("i", 0), num("v"), -1)]
        self.kept(rows, each(("i", 0), ("i", 0), "r", ">=", ("row", "s"), 1))
        self.stands(rows, each(("i", 0), ("i", 0), "r", ">=", ("row", "s"), 2))
        self.stands(rows, each(("i", 0), ("i", 1), "r", ">=", ("row", "s"), 1))


class Loses(Cases):
    def test_ahead_of_what_is_known_and_behind(self):
        known = know(each(("", 0), ("n", 0), "r"))
        self.kept([("lose", "r"), known], each(("", 0), ("n", 0), "r"))
        self.stands([known, ("lose", "r")], each(("", 0), ("n", 0), "r"))
        self.kept([known, ("lose", "s")], each(("", 0), ("n", 0), "r"))
        self.kept([("lose", "r"), known, ("lose", "s")], each(("", 0), ("n", 0), "r"))
        known = know(least(at("r", "i"), ZERO, 2))
        self.kept([("lose", "r"), known], least(at("r", "i"), ZERO, 2))
        self.stands([known, ("lose", "r")], least(at("r", "i"), ZERO, 2))
        known = know(rise(("", 0), ("n", 0), "r"))
        self.kept([("lose", "r"), known], rise(("", 0), ("n", 0), "r"))
        self.stands([known, ("lose", "r")], rise(("", 0), ("n", 0), "r"))

    def test_what_was_read_ahead_stays(self):
        rows = [("set", "x", at("r", "i"), 0), ("lose", "r"), know(least(at("r", "i"), num("x"), 1))]
        self.kept(rows, least(at("r", "i"), num("x"), 1))
        self.stands(rows, least(at("r", "i"), num("x"), 2))
        rows = [("put", "r", ("i", 0), ZERO, 5), ("set", "x", at("r", "i"), 0), ("lose", "r")]
        self.kept(rows, least(num("x"), ZERO, 5))
        self.stands(rows, least(at("r", "i"), ZERO, 5))

    def test_picks_in_their_order(self):
        rows = [("any", "x"), ("lose", "r"), ("any", "y"), ("lose", "r"), ("lose", "s"), ("any", "x")]
        rows += [know(least(num("x"), num("y"), 3)), know(least(at("r", "", 1), at("s", "", 1), 2))]
        self.kept(rows, least(num("x"), num("y"), 3))
        self.stands(rows, least(num("x"), num("y"), 4))
        self.stands(rows, least(at("r", "", 1), at("s", "", 1), 3))


class Places(Cases):
    def test_numbers_that_are_read_from_a_row(self):
        rows = [("set", "x", at("r", "i"), 1), know(least(num("x"), num("y"), 2))]
        for c in [-1, 0, 1]:
            self.either(c <= 0, rows, least(at("r", "i"), num("y"), 1 + c))

    def test_places_that_are_read_from_a_row(self):
        rows = [("set", "p", at("r", "i"), 0), ("put", "s", ("p", 0), ZERO, 4), ("set", "q", at("r", "j"), 0)]
        goal = least(at("s", "q"), ZERO, 4)
        self.stands(rows, goal)
        alike = [know(least(num("i"), num("j"))), know(least(num("j"), num("i")))]
        self.kept(rows + alike, goal)
        self.stands(rows + alike[:1], goal)
        self.kept(rows + [know(least(num("p"), num("q"))), know(least(num("q"), num("p")))], goal)

    def test_a_row_that_tells_its_own_places(self):
        rows = [("set", "x", at("r", "x"), 0), ("set", "x", at("r", "x"), 0), ("set", "x", at("r", "x"), 0)]
        self.stands(rows, least(num("x"), ZERO))
        start = know(each(("", 0), ("n", 0), "r"))
        inside = know(each(("", 0), ("n", 0), "r", "<=", num("n")))
        first = [know(least(num("x"), ZERO)), know(least(num("n"), num("x")))]
        self.kept([start, inside] + first + rows, least(num("x"), ZERO))
        self.stands([start] + first + rows, least(num("x"), ZERO))

    def test_places_taken_by_an_any(self):
        rows = [know(each(("", 0), ("n", 0), "r")), ("any", "k")]
        self.stands(rows, least(at("r", "k"), ZERO))
        self.kept(rows + [know(least(num("k"), ZERO)), know(least(num("n"), num("k")))], least(at("r", "k"), ZERO))
        rows = [("any", "k"), ("put", "r", ("k", 0), num("v"), 0), ("set", "l", num("k"), 0), ("any", "k")]
        self.kept(rows, least(at("r", "l"), num("v")))
        self.stands(rows, least(at("r", "k"), num("v")))


class Names(Cases):
    WORDS = "is at least put row start own pick entry lost nought know set lose".split()

    def test_the_trees_own_words(self):
        for x, y in zip(self.WORDS, self.WORDS[1:] + self.WORDS[:1]):
            rows = [know(least(num(x), num(y), 1)), ("any", x), know(least(num(x), num(y), 2))]
            self.kept(rows, least(num(x), num(y), 2))
            self.stands(rows, least(num(x), num(y), 3))
            rows = [know(each(("", 0), (y, 0), x)), ("put", x, (y, 1), ZERO, 1)]
            self.kept(rows, each(("", 0), (y, 1), x))
            self.stands(rows, each(("", 0), (y, 1), x, ">=", ZERO, 1))
            self.stands(rows, rise(("", 0), (y, 1), x))
            self.stands([("lose", x)], least(at(x, y), num(x)))

    def test_numbers_and_rows_that_are_called_alike(self):
        rows = [know(least(num("r"), ZERO, 3)), ("lose", "r"), ("any", "x")]
        self.kept(rows, least(num("r"), ZERO, 3))
        self.stands(rows, least(at("r", "r"), ZERO, 3))
        self.stands(rows, each(("r", 0), ("r", 0), "r", ">=", num("r")))

    def test_names_with_a_point_between(self):
        rows = [("set", "f.y", num("y"), 1), know(least(num("y"), ZERO))]
        self.kept(rows, least(num("f.y"), ZERO, 1))
        self.stands(rows, least(num("f.y"), ZERO, 2))


class Great(Cases):
    def test_far_apart(self):
        rows = [know(each(("", -FAR), ("", FAR), "r", ">=", ZERO, -FAR)), know(least(num("x"), ZERO, -FAR))]
        rows += [know(least(ZERO, num("x"), -FAR))]
        for c in [-1, 0, 1]:
            self.either(c <= 0, rows, least(at("r", "x"), ZERO, -FAR + c))
        rows = [know(rise(("", 0), ("n", 0), "r")), know(least(num("n"), ZERO, FAR))]
        self.kept(rows, least(at("r", "", FAR), at("r", "", 1)))
        self.stands(rows, least(at("r", "", FAR + 1), at("r", "", 1)))
        rows = [("put", "r", ("x", FAR), num("y"), FAR), ("set", "z", num("x"), -FAR)]
        self.kept(rows, least(at("r", "z", 2 * FAR), num("y"), FAR))
        self.stands(rows, least(at("r", "z", 2 * FAR), num("y"), FAR + 1))
        self.stands(rows, least(at("r", "z", 2 * FAR - 1), num("y"), FAR))

    def test_sixty_rows_that_part_by_every_order(self):
        """All that is put is at least nought; the places may lie in any of 541 orders."""
        chance = random.Random(11)
        names = "abcde"
        known = [know(least(at("r", x), ZERO)) for x in names]
        for c in [0, 1]:
            puts = []
            for again in range(55):
                puts.append(("put", "r", (chance.choice(names), 0), at("r", chance.choice(names)), c))
            for more, word in [(0, "kept"), (FAR, "stand")]:
                goal = least(at("r", "a"), ZERO, more)
                self.assertEqual(hold_decided(self, known + puts, goal, decided(known + puts, goal)), word)

    def test_sixty_rows_of_loses_and_rises(self):
        rows = []
        for again in range(28):
            rows += [("lose", "r"), know(rise(("a", 0), ("b", 0), "r"))]
        rows += [know(least(num("b"), num("c"))), know(least(num("c"), num("a")))]
        self.kept(rows, least(at("r", "c"), at("r", "a")))
        self.stands(rows, least(at("r", "a"), at("r", "c")))


class Wide(Cases):
    def refused(self, rows, goal):
        with self.assertRaises(TooWide) as caught:
            decided(rows, goal)
        self.assertIsInstance(caught.exception, OutlineError)

    def test_five_places_and_six(self):
        reads = [("set", "x", at("r", y), 0) for y in "abcdef"]
        self.stands(reads[:5], least(num("x"), ZERO))
        self.refused(reads, least(num("x"), ZERO))
        self.refused(reads, TRUE)
        puts = [("put", "r", (y, 0), ZERO, 1) for y in "abcdef"]
        self.kept(puts[:5], least(at("r", "e"), ZERO, 1))
        self.refused(puts, TRUE)

    def test_ahead_of_all_else(self):
        self.refused([know(FALSE)] + [("set", "x", at("r", y), 0) for y in "abcdef"], TRUE)

    def test_alike_in_two_ways(self):
        reads = [("set", "x", at("r", y), 0) for y in "abcde"]
        for more in [
            ("set", "x", at("s", "a"), 0), ("put", "s", ("b", 0), ZERO, 0), know(each(("c", 0), ("d", 0), "r")),
            know(rise(("e", 0), ("e", 0), "s")), know(least(at("q", "a"), at("p", "b"))),
        ]:
            self.stands(reads + [more], least(num("z"), ZERO))
        alike = [("set", "f", num("a"), 2), ("set", "x", at("r", "f", -2), 0)]
        self.stands(reads + alike, least(num("z"), ZERO))
        self.refused(reads + alike[:1] + [("set", "x", at("r", "f", -1), 0)], least(num("z"), ZERO))
        # Read twice, but unlike in between.
        self.refused(reads + [("any", "a"), ("set", "x", at("r", "a"), 0)], least(num("z"), ZERO))

    def test_upper_ends(self):
        reads = [("set", "x", at("r", y), 0) for y in "abc"]
        for known in [each(("d", 0), ("e", 0), "r"), rise(("d", 0), ("e", 0), "r")]:
            self.stands(reads + [know(known)], least(num("z"), ZERO))
            self.stands(reads + [("set", "x", at("r", "e"), 0), know(known)], least(num("z"), ZERO))
            self.refused(reads + [("set", "x", at("r", "f"), 0), know(known)], TRUE)
            self.refused(reads + [know(known), know(each(("a", 0), ("e", 1), "r"))], TRUE)

    def test_the_goals_own_places(self):
        reads = [("set", "x", at("r", y), 0) for y in "abcde"]
        low, high = ("a", 0), ("z", 5)
        self.stands(reads[:4], each(low, high, "r"))
        self.refused(reads, each(low, high, "r"))
        self.stands(reads[:3], rise(low, high, "r"))
        self.refused(reads[:4], rise(low, high, "r"))
        self.stands(reads[:4], least(at("r", "z"), ZERO))
        self.refused(reads[:4], least(at("r", "z"), at("s", "y")))
        self.stands(reads[:3], least(at("r", "z"), at("s", "y")))


class Many(Cases):
    """Cases at random, each answer held by itself; of those that are told kept many starts are tried."""

    def some_place(self, chance):
        return (chance.choice(["", "x", "y", "z"]), chance.randint(-1, 1))

    def some_term(self, chance):
        return chance.choice([ZERO, num(chance.choice("xyz")), ("at", chance.choice("rs"), self.some_place(chance))])

    def some_claim(self, chance, whole, far):
        kind = chance.choice(["least", "each", "rise"]) if whole else "least"
        if kind == "least":
            return least(self.some_term(chance), self.some_term(chance), chance.randint(-far, far))
        t, u, r = self.some_place(chance), self.some_place(chance), chance.choice(whole)
        if kind == "rise":
            return rise(t, u, r)
        b = chance.choice([ZERO, num(chance.choice("xyz")), ("row", chance.choice(whole))])
        return each(t, u, r, chance.choice([">=", "<="]), b, chance.randint(-far, far))

    def some_rows(self, chance, far):
        rows, written = [], set()
        for again in range(chance.randint(0, 8)):
            kind = chance.choice(["set", "put", "any", "lose", "know", "know", "know"])
            r, c = chance.choice("rs"), chance.randint(-far, far)
            if kind == "set":
                rows.append(("set", chance.choice("xyz"), self.some_term(chance), c))
            elif kind == "put":
                rows.append(("put", r, self.some_place(chance), self.some_term(chance), c))
                written.add(r)
            elif kind == "any":
                rows.append(("any", chance.choice("xyz")))
            elif kind == "lose":
                rows.append(("lose", r))
                written.discard(r)
            else:
                rows.append(know(self.some_claim(chance, [r for r in "rs" if r not in written], far)))
        return rows

    def test_many(self):
        chance = random.Random(1701)
        seen = {"kept": 0, "stand": 0, "wide": 0, "tried": 0}
        for again in range(6000):
            far = chance.choice([1, 2, 2, FAR])
            rows, goal = self.some_rows(chance, far), self.some_claim(chance, "rs", far)
            if width(rows, goal) > 5:
                self.assertRaises(TooWide, decided, rows, goal)
                seen["wide"] += 1
                continue
            word = hold_decided(self, rows, goal, decided(rows, goal))
            seen[word] += 1
            if word == "kept":
                for start_again in range(20):
                    end = through(rows, some_start(chance, rows, "xyz", "rs"))
                    if end[0] == "through":
                        self.assertTrue(holds(goal, end[1], end[2]), (rows, goal))
                        seen["tried"] += 1
        self.assertGreater(min(seen.values()), 400, seen)

    def test_new_lists_and_the_same_answer(self):
        chance = random.Random(1702)
        for again in range(300):
            rows, goal = self.some_rows(chance, 2), self.some_claim(chance, "rs", 2)
            if width(rows, goal) <= 5:
                self.told(rows, goal)


if __name__ == "__main__":
    unittest.main()
