"""Promises 12, 13 and the width of 15: sources, versions, spots, and the book of a case."""

import copy
import itertools
import random
import unittest

from outlineward.book import booked, spots, width
from outlineward.claims import holds
from outlineward.stairs import entry, stairs
from outlineward.straight import through
from samples import TRUE, ZERO, at, each, least, num, rise

FAR = 10 ** 18
NOUGHT = ("nought",)
OWN, OTHER = (("own", 0), 0), (("own", 1), 0)
R, S = ("row", "r"), ("row", "s")


def start(x):
    return ("start", x)


def spot(x, d=0):
    """A spot so much more than what x is at the beginning, or the spot d for ""."""
    return (start(x) if x else NOUGHT, d)


def held(version, place):
    return ("entry", version, place)


def both(one, other, c):
    """The one is c more than the other."""
    return [(one, other, c), (other, one, -c)]


def one_version(version, one, other, guards):
    """The two clauses of a version that is no put, for two spots; the guards as in the one order."""
    return [
        (guards, (held(version, one), held(version, other), 0)),
        (guards[::-1], (held(version, other), held(version, one), 0)),
    ]


class Books(unittest.TestCase):
    def told(self, rows, goal, ties, clauses, places=None):
        """The book is just these ties and clauses, and nothing that was handed in is changed."""
        before = copy.deepcopy((rows, goal))
        book = booked(rows, goal)
        self.assertIs(type(book), tuple)
        self.assertEqual(book[0], sorted(ties))
        self.assertEqual(book[1], sorted(clauses))
        self.assertEqual(type(book[0]), list)
        self.assertEqual(type(book[1]), list)
        if places is not None:
            self.assertEqual(spots(rows, goal), sorted(places))
        self.assertEqual((rows, goal), before)
        again = copy.deepcopy(book)
        book[0].clear()
        book[1].clear()
        spots(rows, goal).clear()
        self.assertEqual(booked(rows, goal), again)

    def denied(self, rows, x="x"):
        """The tie of the denial of `x >= 0`: what x stands for is read off it."""
        ties = booked(rows, least(num(x), ZERO))[0]
        found = [(source, c) for source, other, c in ties if other == NOUGHT]
        self.assertEqual(len(found), 1, ties)
        return (found[0][0], -1 - found[0][1])


class StandsFor(Books):
    def test_at_the_beginning(self):
        self.assertEqual(self.denied([]), (start("x"), 0))
        self.told([], least(num("x"), num("y"), 3), [(start("x"), start("y"), 2)], [], [])

    def test_set_by_a_name(self):
        self.assertEqual(self.denied([("set", "x", num("y"), 4)]), (start("y"), 4))
        self.assertEqual(self.denied([("set", "x", num("x"), -4)]), (start("x"), -4))
        rows = [("set", "x", num("y"), 4), ("set", "y", num("z"), 1), ("set", "x", num("x"), 2)]
        self.assertEqual(self.denied(rows), (start("y"), 6))
        self.assertEqual(self.denied(rows + [("set", "x", num("y"), FAR)]), (start("z"), FAR + 1))

    def test_set_by_nought(self):
        for rows, more in [([("set", "x", ZERO, 7)], 7), ([("set", "y", ZERO, 7), ("set", "x", num("y"), -2)], 5)]:
            # x - 0 >= 0 denied: nought and so much more is at most nought less 1.
            self.told(rows, least(num("x"), ZERO), [(NOUGHT, NOUGHT, -1 - more)], [])

    def test_set_by_any(self):
        self.assertEqual(self.denied([("any", "x")]), (("pick", 0), 0))
        rows = [("set", "z", ZERO, 1), ("any", "x"), ("any", "y"), ("set", "x", num("x"), 3)]
        self.assertEqual(self.denied(rows), (("pick", 1), 3))
        self.assertEqual(self.denied(rows, "y"), (("pick", 2), 0))
        self.assertEqual(self.denied(rows + [("any", "x")]), (("pick", 4), 0))

    def test_set_by_a_rows_place(self):
        here = held(R, spot("y", 2))
        self.assertEqual(self.denied([("set", "x", at("r", "y", 2), 5)]), (here, 5))
        self.assertEqual(self.denied([("set", "x", at("r", "", -3), 0)]), (held(R, spot("", -3)), 0))
        rows = [("set", "x", at("r", "y", 2), 5), ("set", "x", at("s", "x", 1), -1)]
        self.assertEqual(self.denied(rows), (held(S, (here, 6)), -1))

    def test_one_behind_the_other(self):
        rows = [
            ("set", "x", num("y"), 1), ("set", "y", at("r", "x", 1), 2), ("set", "x", ZERO, 3),
            ("set", "x", at("r", "x", 4), 0), ("set", "z", num("y"), -1),
        ]
        self.assertEqual(self.denied(rows), (held(R, spot("", 7)), 0))
        self.assertEqual(self.denied(rows, "y"), (held(R, spot("y", 2)), 2))
        self.assertEqual(self.denied(rows, "z"), (held(R, spot("y", 2)), 1))

    def test_versions(self):
        rows = [("set", "a", at("r"), 0), ("lose", "r"), ("set", "b", at("r"), 0), ("put", "r", ("", 0), num("v"), 1)]
        rows += [("set", "c", at("r"), 0), ("lose", "r"), ("set", "d", at("r"), 0), ("set", "e", at("s"), 0)]
        zero = spot("")
        for x, version in [("a", R), ("b", ("lost", 1)), ("c", ("put", 3)), ("d", ("lost", 5)), ("e", S)]:
            self.assertEqual(self.denied(rows, x), (held(version, zero), 0))

    def test_put_behind_a_put(self):
        rows = [("put", "r", ("", 0), num("v"), 0), ("put", "r", ("", 9), at("r"), 0), ("set", "x", at("r"), 0)]
        self.assertEqual(self.denied(rows), (held(("put", 1), spot("")), 0))
        self.assertIn((held(("put", 1), spot("", 9)), held(("put", 0), spot("")), 0), booked(rows, TRUE)[0])

    def test_names_with_a_point_between(self):
        rows = [("set", "f.y", num("x"), 1), ("know", least(num("f.y"), num("g.z"), 2))]
        ties = [(start("g.z"), start("x"), -1), (start("x"), NOUGHT, -2)]
        self.told(rows, least(num("f.y"), ZERO), ties, [])

    def test_a_version_for_each_row_that_is_named_anywhere(self):
        two = [("set", "x", at("q", "i"), 0), ("set", "x", at("q", "j"), 0)]
        low, high = ("i", 0), ("j", 0)
        claims = [
            least(at("only", "i"), ZERO), least(ZERO, at("only", "i")), each(low, high, "only"),
            each(low, high, "only", "<=", ("row", "q")), each(low, high, "q", "<=", ("row", "only")),
            rise(low, high, "only"),
        ]
        named = [("set", "x", at("only", "i"), 0), ("put", "only", low, ZERO, 0), ("put", "q", low, at("only", "i"), 0)]
        named += [("lose", "only")] + [("know", claim) for claim in claims]
        for rows, goal in [(two + [row], TRUE) for row in named] + [(two, claim) for claim in claims]:
            clauses = booked(rows, goal)[1]
            guards = ((start("i"), start("j"), 0), (start("j"), start("i"), 0))
            for clause in one_version(("row", "only"), spot("i"), spot("j"), guards):
                self.assertIn(clause, clauses, (rows, goal))
        for guards, tie in booked(two, TRUE)[1]:
            self.assertEqual(tie[0][1], ("row", "q"))

    def test_deeper_than_eight(self):
        rows = [("set", "x", at("r", "x"), 1)] * 30
        told = (start("x"), 0)
        places = []
        for row in rows:
            places.append(told)
            told = (held(R, told), 1)
        self.assertEqual(self.denied(rows), told)
        self.assertEqual(spots(rows, TRUE), sorted(places))


class Leasts(Books):
    def test_known_and_denied(self):
        rows = [("set", "x", num("y"), 1), ("know", least(num("x"), num("z"), 2))]
        ties = [(start("z"), start("y"), -1), (start("y"), start("z"), -2)]
        self.told(rows, least(num("x"), num("z")), ties, [], [])

    def test_known_as_it_stands_there(self):
        rows = [("know", least(num("x"), ZERO, 5)), ("any", "x"), ("know", least(num("x"), ZERO, 5))]
        ties = [(NOUGHT, start("x"), -5), (NOUGHT, ("pick", 1), -5), (("pick", 1), NOUGHT, 6)]
        self.told(rows, least(num("x"), ZERO, 7), ties, [])

    def test_entries(self):
        rows = [("know", least(at("r", "i", 1), at("s", "", 2), 3)), ("set", "x", at("r", "i", 1), 4)]
        one, two = spot("i", 1), spot("", 2)
        ties = [(held(S, two), held(R, one), -3), (held(R, one), start("k"), -5)]
        guards = ((start("i"), NOUGHT, 1), (NOUGHT, start("i"), -1))
        clauses = one_version(R, one, two, guards) + one_version(S, one, two, guards)
        self.told(rows, least(num("x"), num("k")), ties, clauses, [one, two])

    def test_goal_reads_rows(self):
        one, two = spot("i"), spot("j", -1)
        guards = ((start("i"), start("j"), -1), (start("j"), start("i"), 1))
        ties = [(held(R, one), held(S, two), 8)]
        clauses = one_version(R, one, two, guards) + one_version(S, one, two, guards)
        self.told([], least(at("r", "i"), at("s", "j", -1), 9), ties, clauses, [one, two])

    def test_sources_that_are_one_stand(self):
        ties = [(start("x"), start("x"), -2), (NOUGHT, NOUGHT, -1)]
        self.told([("know", least(num("x"), num("x"), 2))], TRUE, ties, [])
        self.told([], least(num("x"), num("x"), 2), [(start("x"), start("x"), 1)], [])

    def test_ties_that_come_about_twice(self):
        known = ("know", least(num("x"), num("y"), 1))
        self.told([known, known], least(num("y"), num("x")), [(start("y"), start("x"), -1)], [])
        ties = [(start("y"), start("x"), -1), (start("y"), start("x"), -2)]
        self.told([known], least(num("y"), num("x"), -1), ties, [])


class Puts(Books):
    def test_one_put(self):
        one, two, new = spot("i"), spot("j"), ("put", 0)
        i, j, v = start("i"), start("j"), start("v")
        ties = both(held(new, one), v, 3) + [(held(new, two), v, -1)]
        clauses = one_version(R, one, two, ((i, j, 0), (j, i, 0)))
        clauses += [(((j, i, 0), (i, j, 0)), tie) for tie in both(held(new, two), v, 3)]
        clauses += [(((j, i, -1),), tie) for tie in both(held(new, two), held(R, two), 0)]
        clauses += [(((i, j, -1),), tie) for tie in both(held(new, two), held(R, two), 0)]
        self.told([("put", "r", ("i", 0), num("v"), 3)], least(at("r", "j"), num("v")), ties, clauses, [one, two])

    def test_put_at_a_place_with_more(self):
        one, two, new = spot("i", 5), spot("j", 2), ("put", 0)
        i, j = start("i"), start("j")
        ties = both(held(new, one), NOUGHT, 3) + [(held(new, two), NOUGHT, -1)]
        clauses = one_version(R, one, two, ((i, j, -3), (j, i, 3)))
        clauses += [(((j, i, 3), (i, j, -3)), tie) for tie in both(held(new, two), NOUGHT, 3)]
        clauses += [(((j, i, 2),), tie) for tie in both(held(new, two), held(R, two), 0)]
        clauses += [(((i, j, -4),), tie) for tie in both(held(new, two), held(R, two), 0)]
        self.told([("put", "r", ("i", 5), ZERO, 3)], least(at("r", "j", 2), ZERO), ties, clauses, [one, two])

    def test_sources_that_are_one(self):
        """Beside one another: the guards are all true or untrue, and none is left."""
        one, two, three, new = spot("i"), spot("i", 1), spot("i", 2), ("put", 0)
        rows = [("put", "r", ("i", 1), num("v"), 0)]
        goal = least(at("r", "i"), at("r", "i", 2))
        ties = both(held(new, two), start("v"), 0) + [(held(new, one), held(new, three), -1)]
        clauses = [((), tie) for tie in both(held(new, one), held(R, one), 0)]
        clauses += [((), tie) for tie in both(held(new, three), held(R, three), 0)]
        self.told(rows, goal, ties, clauses, [one, two, three])

    def test_two_puts_of_one_row(self):
        one, two = spot("i"), spot("j")
        i, j, old, new = start("i"), start("j"), ("put", 0), ("put", 1)
        value = held(old, one)
        rows = [("put", "r", ("i", 0), num("v"), 0), ("put", "r", ("j", 0), at("r", "i"), 1)]
        ties = both(value, start("v"), 0) + both(held(new, two), value, 1) + [(NOUGHT, NOUGHT, -1)]
        clauses = one_version(R, one, two, ((i, j, 0), (j, i, 0)))
        clauses += [(((j, i, 0), (i, j, 0)), tie) for tie in both(held(old, two), start("v"), 0)]
        clauses += [(((j, i, -1),), tie) for tie in both(held(old, two), held(R, two), 0)]
        clauses += [(((i, j, -1),), tie) for tie in both(held(old, two), held(R, two), 0)]
        clauses += [(((i, j, 0), (j, i, 0)), tie) for tie in both(held(new, one), value, 1)]
        clauses += [(((i, j, -1),), tie) for tie in both(held(new, one), held(old, one), 0)]
        clauses += [(((j, i, -1),), tie) for tie in both(held(new, one), held(old, one), 0)]
        self.told(rows, TRUE, ties, clauses, [one, two])

    def test_lose_behind_a_put(self):
        one, two, new, lost = spot("i"), spot("j"), ("put", 0), ("lost", 1)
        i, j = start("i"), start("j")
        rows = [("put", "r", ("i", 0), ZERO, 0), ("lose", "r")]
        ties = both(held(new, one), NOUGHT, 0) + [(held(lost, two), NOUGHT, -1)]
        clauses = one_version(R, one, two, ((i, j, 0), (j, i, 0))) + one_version(lost, one, two, ((i, j, 0), (j, i, 0)))
        clauses += [(((j, i, 0), (i, j, 0)), tie) for tie in both(held(new, two), NOUGHT, 0)]
        clauses += [(((j, i, -1),), tie) for tie in both(held(new, two), held(R, two), 0)]
        clauses += [(((i, j, -1),), tie) for tie in both(held(new, two), held(R, two), 0)]
        self.told(rows, least(at("r", "j"), ZERO), ties, clauses, [one, two])

    def test_one_spot_alone(self):
        rows = [("put", "r", ("i", 0), num("v"), 0)]
        ties = both(held(("put", 0), spot("i")), start("v"), 0) + [(held(("put", 0), spot("i")), start("v"), -1)]
        self.told(rows, least(at("r", "i"), num("v")), ties, [], [spot("i")])


class Eaches(Books):
    def test_goals(self):
        here = held(R, OWN)
        reach = [(start("i"), ("own", 0), -1), (("own", 0), start("n"), -1)]
        for way, b, c, turned in [
            (">=", num("y"), 3, (here, start("y"), 2)),
            ("<=", num("y"), 3, (start("y"), here, -4)),
            (">=", ZERO, -3, (here, NOUGHT, -4)),
            ("<=", ZERO, -3, (NOUGHT, here, 2)),
            (">=", ("row", "s"), 2, (here, held(S, OWN), 1)),
            ("<=", ("row", "s"), 2, (held(S, OWN), here, -3)),
            (">=", ("row", "r"), 0, (here, here, -1)),
        ]:
            self.told([], each(("i", 1), ("n", -1), "r", way, b, c), reach + [turned], [], [OWN])

    def test_goal_stands_at_the_end(self):
        rows = [("set", "i", num("k"), 2), ("any", "y"), ("lose", "r"), ("set", "n", ZERO, 6)]
        here = held(("lost", 2), OWN)
        ties = [(start("k"), ("own", 0), -3), (("own", 0), NOUGHT, 5), (here, ("pick", 1), 2)]
        self.told(rows, each(("i", 1), ("n", -1), "r", ">=", num("y"), 3), ties, [], [OWN])

    def test_known(self):
        """One spot, t, and the goal's own."""
        i, n, own = start("i"), start("n"), ("own", 0)
        low = spot("i", 1)
        rows = [("know", each(("i", 1), ("n", -1), "r", ">=", num("y"), 3))]
        goal = each(("", 0), ("", 9), "r", ">=", num("y"), 2)
        ties = [(NOUGHT, own, 0), (own, NOUGHT, 9), (held(R, OWN), start("y"), 1)]
        clauses = one_version(R, low, OWN, ((i, own, -1), (own, i, 1)))
        clauses += [
            (((i, n, -2),), (start("y"), held(R, low), -3)),
            (((i, own, -1), (own, n, -1)), (start("y"), held(R, OWN), -3)),
        ]
        self.told(rows, goal, ties, clauses, [low, OWN])

    def test_known_of_each_form(self):
        low = spot("i")
        for way, b, c, said in [
            (">=", num("y"), 3, (start("y"), held(R, low), -3)),
            ("<=", num("y"), 3, (held(R, low), start("y"), 3)),
            (">=", ZERO, 3, (NOUGHT, held(R, low), -3)),
            ("<=", ZERO, 3, (held(R, low), NOUGHT, 3)),
            (">=", ("row", "s"), -2, (held(S, low), held(R, low), 2)),
            ("<=", ("row", "s"), -2, (held(R, low), held(S, low), -2)),
        ]:
            rows = [("know", each(("i", 0), ("n", 0), "r", way, b, c))]
            clauses = [(((start("i"), start("n"), 0),), said)]
            self.told(rows, TRUE, [(NOUGHT, NOUGHT, -1)], clauses, [low])

    def test_known_as_it_stands_there(self):
        rows = [
            ("any", "y"), ("lose", "r"), ("know", each(("i", 0), ("n", 0), "r", "<=", num("y"))), ("any", "y"),
            ("lose", "r"), ("set", "i", ZERO, 0), ("put", "s", ("i", 0), ZERO, 0), ("any", "n"),
        ]
        low, zero, lost = spot("i"), spot(""), ("lost", 1)
        i, n, new = start("i"), start("n"), ("put", 6)
        ties = both(held(new, zero), NOUGHT, 0) + [(NOUGHT, NOUGHT, -1)]
        clauses = [
            (((i, n, 0),), (held(lost, low), ("pick", 0), 0)),
            (((i, NOUGHT, 0), (NOUGHT, n, 0)), (held(lost, zero), ("pick", 0), 0)),
        ]
        for version in [R, S, lost, ("lost", 4)]:
            clauses += one_version(version, low, zero, ((i, NOUGHT, 0), (NOUGHT, i, 0)))
        clauses += [(((i, NOUGHT, 0), (NOUGHT, i, 0)), tie) for tie in both(held(new, low), NOUGHT, 0)]
        clauses += [(((i, NOUGHT, -1),), tie) for tie in both(held(new, low), held(S, low), 0)]
        clauses += [(((NOUGHT, i, -1),), tie) for tie in both(held(new, low), held(S, low), 0)]
        self.told(rows, TRUE, ties, clauses, [low, zero])

    def test_guards_whose_sources_are_one(self):
        known = each(("", 0), ("", 5), "r", ">=", ZERO, 1)
        denied = (NOUGHT, NOUGHT, -1)
        for place, inside in [(-1, False), (0, True), (5, True), (6, False)]:
            rows = [("know", known), ("set", "x", at("r", "", place), 0)]
            clauses = [((), (NOUGHT, held(R, spot("", k)), -1)) for k in {0, place} if inside or k == 0]
            self.told(rows, TRUE, [denied], clauses, {spot(""), spot("", place)})
        self.told([("know", each(("", 5), ("", 4), "r"))], TRUE, [denied], [], [spot("", 5)])
        self.told([("know", each(("i", 5), ("i", 4), "r"))], TRUE, [denied], [], [spot("i", 5)])
        half = [("know", each(("", 0), ("n", 0), "r"))]
        self.told(half, TRUE, [denied], [(((NOUGHT, start("n"), 0),), (NOUGHT, held(R, spot("")), 0))], [spot("")])

    def test_clauses_that_come_about_twice(self):
        known = ("know", each(("i", 0), ("n", 0), "r"))
        clauses = [(((start("i"), start("n"), 0),), (NOUGHT, held(R, spot("i")), 0))]
        self.told([known, known], TRUE, [(NOUGHT, NOUGHT, -1)], clauses, [spot("i")])


class Rises(Books):
    def test_goal(self):
        own, other = ("own", 0), ("own", 1)
        ties = [(start("i"), own, -1), (own, other, 0), (other, start("n"), -1), (held(R, OTHER), held(R, OWN), -1)]
        clauses = one_version(R, OWN, OTHER, ((own, other, 0), (other, own, 0)))
        self.told([], rise(("i", 1), ("n", -1), "r"), ties, clauses, [OWN, OTHER])

    def test_goal_stands_at_the_end(self):
        own, other, lost = ("own", 0), ("own", 1), ("lost", 1)
        rows = [("any", "i"), ("lose", "r")]
        ties = [(("pick", 0), own, 0), (own, other, 0), (other, NOUGHT, 9), (held(lost, OTHER), held(lost, OWN), -1)]
        clauses = one_version(R, OWN, OTHER, ((own, other, 0), (other, own, 0)))
        clauses += one_version(lost, OWN, OTHER, ((own, other, 0), (other, own, 0)))
        self.told(rows, rise(("i", 0), ("", 9), "r"), ties, clauses, [OWN, OTHER])

    def test_known(self):
        low, two = spot("i", 1), spot("j")
        i, j, n = start("i"), start("j"), start("n")
        rows = [("know", rise(("i", 1), ("n", -1), "r"))]
        clauses = one_version(R, low, two, ((i, j, -1), (j, i, 1)))
        clauses += [
            # low at most low is true and left out.
            (((i, j, -1), (j, n, -1)), (held(R, low), held(R, two), 0)),
            (((i, j, -1), (j, i, 1), (i, n, -2)), (held(R, two), held(R, low), 0)),
        ]
        ties = [(held(R, two), NOUGHT, -1)]
        self.told(rows, least(at("r", "j"), ZERO), ties, clauses, [low, two])

    def test_guards_whose_sources_are_one(self):
        rows = [("know", rise(("", 0), ("", 5), "r")), ("set", "x", at("r", "", 3), 0), ("set", "x", at("r", "", 6), 0)]
        clauses = [((), (held(R, spot("")), held(R, spot("", 3)), 0))]
        self.told(rows, TRUE, [(NOUGHT, NOUGHT, -1)], clauses, [spot(""), spot("", 3), spot("", 6)])
        half = [("know", rise(("", 0), ("n", 0), "r")), ("set", "x", at("r", "", 3), 0)]
        clauses = [(((NOUGHT, start("n"), -3),), (held(R, spot("")), held(R, spot("", 3)), 0))]
        self.told(half, TRUE, [(NOUGHT, NOUGHT, -1)], clauses)


class Spots(Books):
    def test_where_rows_are_read_and_written(self):
        for rows, goal, places in [
            ([], TRUE, []),
            ([("set", "x", num("y"), 1), ("any", "x"), ("lose", "r")], TRUE, []),
            ([("set", "x", at("r", "y", 1), 1)], TRUE, [spot("y", 1)]),
            ([("put", "r", ("y", 1), num("z"), 1)], TRUE, [spot("y", 1)]),
            ([("put", "r", ("y", 1), at("r", "z"), 1)], TRUE, [spot("y", 1), spot("z")]),
            ([("know", least(at("r", "y"), at("s", "", 2)))], TRUE, [spot("y"), spot("", 2)]),
            ([("know", each(("y", 1), ("z", 0), "r"))], TRUE, [spot("y", 1)]),
            ([("know", rise(("y", 1), ("z", 0), "r"))], TRUE, [spot("y", 1)]),
            ([], least(at("r", "y"), at("s", "z")), [spot("y"), spot("z")]),
            ([], each(("y", 1), ("z", 0), "r"), [OWN]),
            ([], rise(("y", 1), ("z", 0), "r"), [OWN, OTHER]),
        ]:
            self.assertEqual(spots(rows, goal), sorted(places))

    def test_each_once_and_sorted(self):
        rows = [("set", "x", at("r", "y"), 0), ("set", "z", num("y"), 0), ("put", "s", ("z", 0), at("r", "x"), 0)]
        rows += [("any", "w"), ("set", "x", at("r", "w", 1), 0), ("set", "x", at("s", "", 1), 0)]
        rows += [("set", "x", at("s"), 0)]
        goal = rise(("y", 0), ("z", 0), "r")
        order = [(held(R, spot("y")), 0), spot(""), spot("", 1), OWN, OTHER, (("pick", 3), 1), spot("y")]
        self.assertEqual(spots(rows, goal), order)

    def test_width(self):
        one = each(("y", 0), ("z", 0), "r")
        for rows, goal, many in [
            ([], TRUE, 0),
            ([], one, 1),
            ([], rise(("y", 0), ("z", 0), "r"), 2),
            ([("know", one)], TRUE, 2),
            ([("know", one)], one, 3),
            ([("know", one), ("know", one)], TRUE, 2),
            ([("know", one), ("know", rise(("y", 0), ("z", 0), "s"))], TRUE, 2),
            ([("know", one), ("know", rise(("y", 0), ("z", 1), "s"))], TRUE, 3),
            ([("know", each(("y", 0), ("y", 0), "r"))], TRUE, 1),
            ([("know", one)], least(at("r", "z"), at("r", "y")), 2),
            ([("know", one)], least(at("r", "z", 1), at("r", "y")), 3),
            ([("set", "z", num("y"), 0), ("know", one)], TRUE, 1),
            ([("any", "z"), ("know", one), ("any", "z"), ("know", one)], TRUE, 3),
            ([("know", least(at("r", "a"), at("s", "b"))), ("put", "r", ("c", 0), at("s", "d"), 0)], one, 5),
        ]:
            before = copy.deepcopy((rows, goal))
            self.assertEqual(width(rows, goal), many, (rows, goal))
            self.assertEqual((rows, goal), before)

    def test_new_lists(self):
        goal = rise(("y", 0), ("z", 0), "r")
        first = spots([], goal)
        first.clear()
        self.assertEqual(spots([], goal), [OWN, OTHER])


class World:
    """What sources are in a start whose picks are told for every any and lose, known claims passed over."""

    def __init__(self, rows, begin, own):
        self.rows = [("know", TRUE) if row[0] == "know" else row for row in rows]
        self.begin = begin
        self.own = own

    def number(self, n):
        return self.begin[2][len([row for row in self.rows[:n] if row[0] in ("any", "lose")])]

    def version(self, version):
        kind, which = version
        if kind == "row":
            return self.begin[1].get(which, (0, ()))
        return through(self.rows[:which + 1], self.begin)[2][self.rows[which][1]]

    def source(self, source):
        if source == NOUGHT:
            return 0
        if source[0] == "start":
            return self.begin[0].get(source[1], 0)
        if source[0] == "pick":
            return self.number(source[1])
        if source[0] == "own":
            return self.own[source[1]]
        return entry(self.version(source[1]), self.spot(source[2]))

    def spot(self, place):
        return self.source(place[0]) + place[1]

    def true(self, tie):
        return self.source(tie[0]) <= self.source(tie[1]) + tie[2]


class Meaning(unittest.TestCase):
    """In a start, known claims of spots are true just where all clauses are, and the ties hold, by some own places,
    just where the known leasts are true and the goal isn't."""

    def test_many(self):
        chance = random.Random(3)
        seen = {}
        for again in range(1200):
            rows = self.some_rows(chance)
            goal = self.some_claim(chance, "rs")
            ties, clauses = booked(rows, goal)
            for start_again in range(4):
                begin = self.some_start(chance, rows)
                told = self.look(rows, goal, ties, clauses, begin)
                seen[told] = seen.get(told, 0) + 1
        for told in itertools.product([True, False], repeat=2):
            self.assertGreater(seen[told], 100, seen)

    def look(self, rows, goal, ties, clauses, begin):
        reach = range(-4, 8)
        worlds = [World(rows, begin, own) for own in ([(0, 0)] if goal[0] == "least" else [(k, 0) for k in reach])]
        if goal[0] == "rise":
            worlds = [World(rows, begin, own) for own in itertools.product(reach, repeat=2)]
        end = through(worlds[0].rows, begin)
        untrue = not holds(goal, end[1], end[2])
        where = [n for n, row in enumerate(rows) if row[0] == "know" and row[1][0] == "least"]
        leasts = all(self.known(rows, begin, n) for n in where)
        found = [all(world.true(tie) for tie in ties) for world in worlds]
        self.assertEqual(any(found), leasts and untrue, (rows, goal, begin))
        places = spots(rows, goal)
        for world in worlds[::5]:
            every = all(world.true(tie) for guards, tie in clauses if all(world.true(guard) for guard in guards))
            here = [world.spot(place) for place in places]
            said = all(self.said_of(rows, begin, n, here) for n, row in enumerate(rows) if row[0] == "know")
            self.assertEqual(every, said, (rows, goal, begin, world.own))
        return (untrue, leasts)

    def known(self, rows, begin, n):
        then = through([("know", TRUE) if row[0] == "know" else row for row in rows[:n]], begin)
        return holds(rows[n][1], then[1], then[2])

    def said_of(self, rows, begin, n, here):
        """Whether the known each or rise in row n is true as far as these places go."""
        claim = rows[n][1]
        if claim[0] == "least":
            return True
        bare = [("know", TRUE) if row[0] == "know" else row for row in rows[:n]]
        then = through(bare, begin)
        low, high = [then[1].get(x, 0) + d for x, d in claim[1:3]]
        inside = sorted(p for p in here if low <= p <= high)
        if claim[0] == "each":
            return all(holds(("each", ("", p), ("", p)) + claim[3:], then[1], then[2]) for p in inside)
        values = [entry(then[2].get(claim[3], (0, ())), p) for p in inside]
        return values == sorted(values)

    def some_rows(self, chance):
        rows, written = [], set()
        for row in range(chance.randint(0, 6)):
            kind = chance.choice(["set", "put", "any", "lose", "know", "know"])
            if kind == "set":
                rows.append(("set", chance.choice("xyz"), self.some_term(chance), chance.randint(-1, 1)))
            elif kind == "put":
                r = chance.choice("rs")
                rows.append(("put", r, self.some_place(chance), self.some_term(chance), chance.randint(-1, 1)))
                written.add(r)
            elif kind == "any":
                rows.append(("any", chance.choice("xyz")))
            elif kind == "lose":
                rows.append(("lose", chance.choice("rs")))
                written.discard(rows[-1][1])
            else:
                rows.append(("know", self.some_claim(chance, "".join(r for r in "rs" if r not in written))))
        return rows

    def some_place(self, chance):
        return (chance.choice(["", "x", "y", "z"]), chance.randint(-1, 2))

    def some_term(self, chance):
        return chance.choice([ZERO, num(chance.choice("xyz")), ("at", chance.choice("rs"), self.some_place(chance))])

    def some_claim(self, chance, whole):
        kind = chance.choice(["least", "each", "rise"]) if whole else "least"
        if kind == "least":
            return least(self.some_term(chance), self.some_term(chance), chance.randint(-2, 1))
        # Ends that are numbers keep the goal's own places within the reach that is looked at.
        t, u = ("", chance.randint(-2, 1)), ("", chance.randint(0, 3))
        r = chance.choice(whole)
        if kind == "rise":
            return rise(t, u, r)
        b = chance.choice([ZERO, num(chance.choice("xyz")), ("row", chance.choice(whole))])
        return each(t, u, r, chance.choice([">=", "<="]), b, chance.randint(-2, 1))

    def some_stairs(self, chance):
        return stairs(chance.randint(-1, 2), [(p, chance.randint(-1, 2)) for p in chance.sample(range(-2, 5), 2)])

    def some_start(self, chance, rows):
        numbers = {x: chance.randint(-1, 2) for x in chance.sample("xyz", 2)}
        held_rows = {r: self.some_stairs(chance) for r in chance.sample("rs", 1)}
        picks = []
        for row in rows:
            if row[0] == "any":
                picks.append(chance.randint(-1, 2))
            elif row[0] == "lose":
                picks.append(self.some_stairs(chance))
        return (numbers, held_rows, picks)


class Whole(Books):
    def test_same_answer_again(self):
        rows = [("lose", "r"), ("know", rise(("", 0), ("n", -1), "r")), ("put", "s", ("n", 0), at("r", "n", -1), 1)]
        goal = each(("", 0), ("n", 0), "s", ">=", ("row", "r"))
        first = booked(rows, goal)
        for again in range(3):
            self.assertEqual(booked(list(rows), goal), first)
        self.assertEqual(first[0], sorted(set(first[0])))
        self.assertEqual(first[1], sorted(set(first[1])))

    def test_sixty_rows(self):
        rows = []
        for k in range(12):
            x = "abcdefghijkl"[k]
            rows += [("any", x), ("put", "r", (x, 0), num(x), 0), ("set", "x", at("r", x), 0), ("lose", "s")]
            rows += [("know", each((x, 0), ("n", 0), "s"))]
        ties, clauses = booked(rows, TRUE)
        self.assertEqual(len(spots(rows, TRUE)), 12)
        self.assertEqual(width(rows, TRUE), 13)
        self.assertEqual(len(ties), 12 * 2 + 1)
        # Versions r, s and 12 lost; 12 puts with 6 clauses for each other spot; 12 eaches with one for each spot.
        self.assertEqual(len(clauses), 14 * 12 * 11 + 12 * 11 * 6 + 12 * 12)


if __name__ == "__main__":
    unittest.main()
