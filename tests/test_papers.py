"""Promise 14: papers, which hold for a book or don't."""

import copy
import itertools
import random
import unittest

from outlineward.book import booked
from outlineward.papers import paper_holds
from samples import ZERO, at, each, least, num, rise

NOUGHT = ("nought",)
A, B, C, D = [("start", x) for x in "abcd"]
FAR = 10 ** 18


def ring(*ties):
    return ("ring", list(ties))


def split(tie, yes, no):
    return ("split", tie, yes, no)


def turned(tie):
    return (tie[1], tie[0], -1 - tie[2])


def plainly_holds(book, paper, way=()):
    """The words of the promise once more, by going down the paper."""
    if paper[0] == "split":
        tie, yes, no = paper[1:]
        return plainly_holds(book, yes, way + (tie,)) and plainly_holds(book, no, way + (turned(tie),))
    ties = paper[1]
    here = list(book[0]) + list(way)
    for k, tie in enumerate(ties):
        if tie[1] != ties[(k + 1) % len(ties)][0]:
            return False
        by_clause = any(tie == told and all(guard in here for guard in guards) for guards, told in book[1])
        if tie not in here and not by_clause:
            return False
    return len(ties) > 0 and sum(tie[2] for tie in ties) < 0


class Papers(unittest.TestCase):
    def told(self, answer, book, paper):
        before = copy.deepcopy((book, paper))
        self.assertIs(paper_holds(book, paper), answer, (book, paper))
        self.assertEqual((book, paper), before)
        self.assertIs(paper_holds(book, paper), answer)
        self.assertIs(plainly_holds(book, paper), answer)

    def yes(self, book, paper):
        self.told(True, book, paper)

    def no(self, book, paper):
        self.told(False, book, paper)


class Rings(Papers):
    def test_one_tie(self):
        for c in [-1, -5, -FAR]:
            self.yes(([(A, A, c)], []), ring((A, A, c)))
        for c in [0, 1, FAR]:
            self.no(([(A, A, c)], []), ring((A, A, c)))

    def test_one_tie_that_does_not_close(self):
        self.no(([(A, B, -1)], []), ring((A, B, -1)))

    def test_two_and_more(self):
        ties = [(A, B, 2), (B, C, -4), (C, A, 1)]
        book = (sorted(ties), [])
        for turn in range(3):
            self.yes(book, ring(*(ties[turn:] + ties[:turn])))
        self.no(book, ring(*ties[::-1]))
        self.no(book, ring(ties[0], ties[2], ties[1]))
        for k in range(3):
            self.no(book, ring(*(ties[:k] + ties[k + 1:])))

    def test_the_sum_just_nought_and_just_below(self):
        for c, answer in [(-1, True), (0, False), (1, False)]:
            ties = [(A, B, 2), (B, C, -4), (C, A, 2 + c)]
            self.told(answer, (ties, []), ring(*ties))
        ties = [(A, B, FAR), (B, A, -FAR)]
        self.no((ties, []), ring(*ties))
        ties = [(A, B, FAR), (B, A, -FAR - 1)]
        self.yes((ties, []), ring(*ties))

    def test_no_tie_at_all(self):
        self.no(([], []), ring())
        self.no(([(A, A, -1)], [((), (A, A, -2))]), ring())

    def test_a_tie_that_is_not_in_the_book(self):
        ties = [(A, B, 2), (B, A, -3)]
        self.no(([], []), ring(*ties))
        self.no((ties[:1], []), ring(*ties))
        self.no((ties[1:], []), ring(*ties))

    def test_the_very_tie(self):
        book = ([(A, B, 2), (B, A, -5)], [])
        self.yes(book, ring((A, B, 2), (B, A, -5)))
        self.no(book, ring((A, B, 3), (B, A, -5)))
        self.no(book, ring((A, B, 2), (B, A, -4)))
        self.no(book, ring((A, B, 2), (B, A, -6)))

    def test_a_tie_may_stand_twice(self):
        book = ([(A, B, 0), (B, A, -1)], [])
        self.yes(book, ring((A, B, 0), (B, A, -1), (A, B, 0), (B, A, -1)))

    def test_sources_that_look_alike(self):
        for one, other in [
            (("start", "own"), ("own", 0)), (("pick", 1), ("pick", 11)), (("start", "a"), ("start", "aa")),
            (("entry", ("row", "r"), (A, 1)), ("entry", ("row", "r"), (A, -1))),
            (("entry", ("put", 1), (A, 1)), ("entry", ("lost", 1), (A, 1))),
        ]:
            self.yes(([(one, one, -1)], []), ring((one, one, -1)))
            self.no(([(one, one, -1)], []), ring((other, other, -1)))
            self.no(([(one, other, -1), (other, one, 0)], []), ring((one, one, -1), (one, one, 0)))


class Splits(Papers):
    def test_the_tie_on_the_way_to_yes_its_turned_one_on_the_way_to_no(self):
        book = ([(A, C, 1), (C, B, 1), (B, D, -2), (D, A, -1)], [])
        tie = (A, B, 2)
        self.assertEqual(turned(tie), (B, A, -3))
        yes, no = ring(tie, (B, D, -2), (D, A, -1)), ring((B, A, -3), (A, C, 1), (C, B, 1))
        self.yes(book, split(tie, yes, no))
        for c in [-2, -4]:
            self.no(book, split(tie, yes, ring((B, A, c), (A, C, 1), (C, B, 1))))
        self.no(book, yes)
        self.no(book, no)

    def test_both_ways_are_looked_at(self):
        book = ([(B, A, -1), (A, B, -1)], [])
        tie = (A, B, 0)
        good_yes, good_no = ring(tie, (B, A, -1)), ring(turned(tie), (A, B, -1))
        self.assertEqual(turned(tie), (B, A, -1))
        self.yes(book, split(tie, good_yes, good_no))
        self.no(book, split(tie, ring(), good_no))
        self.no(book, split(tie, good_yes, ring()))

    def test_yes_and_no_exchanged(self):
        tie = (A, C, 7)
        book = ([(C, A, -8), (A, D, 3), (D, C, 4)], [])
        yes, no = ring(tie, (C, A, -8)), ring(turned(tie), (A, D, 3), (D, C, 4))
        self.yes(book, split(tie, yes, no))
        self.no(book, split(tie, no, yes))
        self.yes(book, split(turned(tie), no, yes))

    def test_any_tie_may_be_split_by(self):
        book = ([(A, A, -1)], [])
        done = ring((A, A, -1))
        for tie in [(A, B, 0), (C, D, -7), (A, A, -1), (NOUGHT, ("entry", ("row", "r"), (A, 1)), FAR)]:
            self.yes(book, split(tie, done, done))

    def test_a_split_of_one_source(self):
        tie = (A, A, -1)
        self.no(([], []), split(tie, ring(tie), ring()))
        self.no(([], []), split(tie, ring(tie), ring(turned(tie))))
        self.yes(([(A, A, -3)], []), split(tie, ring(tie), ring((A, A, -3))))
        self.yes(([(A, A, -3)], []), split(tie, ring(tie), ring(turned(tie), (A, A, -3))))

    def test_papers_within_papers(self):
        book = ([(B, A, 0), (C, B, 0), (A, C, -1)], [])
        done = ring((B, A, 0), (A, C, -1), (C, B, 0))
        self.yes(book, done)
        one, two = (B, A, -1), (C, B, -1)
        self.yes(book, split(one, split(two, done, done), done))
        deep = ring(one, (A, C, -1), two)
        self.yes(book, split(one, split(two, deep, done), done))
        self.no(book, split(one, split(two, done, deep), done))
        self.no(book, split(one, done, split(two, deep, done)))
        self.no(book, split(one, deep, split(two, done, done)))
        self.no(book, split(one, split(two, deep, deep), done))

    def test_ways_are_kept_apart(self):
        """What holds on the way to one leaf doesn't hold on the way to another one."""
        tie, other = (A, B, -1), (C, D, -1)
        book = ([(B, A, 0), (D, C, 0)], [])
        first, second = ring(tie, (B, A, 0)), ring(other, (D, C, 0))
        self.no(book, split(tie, first, first))
        self.no(book, split(tie, second, second))
        self.no(book, split(tie, first, split(other, second, first)))
        self.no(book, split(tie, split(other, second, first), split(other, second, first)))
        book = ([(B, A, 0), (D, C, 0), (A, B, -1)], [])
        self.yes(book, split(tie, split(other, second, first), split(other, second, first)))

    def test_very_deep(self):
        book = ([(A, A, -1)], [])
        paper = ring((A, A, -1))
        for depth in range(3000):
            paper = ("split", (A, B, depth), ring((A, A, -1)), paper)
        self.assertIs(paper_holds(book, paper), True)
        wrong = ring((A, A, 0))
        for depth in range(3000):
            wrong = ("split", (A, B, depth), ring((A, A, -1)), wrong)
        self.assertIs(paper_holds(book, wrong), False)


class Clauses(Papers):
    GUARDS = ((A, B, 0), (B, A, 0))
    TIE = (C, D, -2)

    def book(self, ties):
        return (sorted(ties + [(D, C, 1)]), [(self.GUARDS, self.TIE)])

    def test_guards_that_hold_by_the_book(self):
        paper = ring(self.TIE, (D, C, 1))
        self.yes(self.book(list(self.GUARDS)), paper)
        self.no(self.book([self.GUARDS[0]]), paper)
        self.no(self.book([self.GUARDS[1]]), paper)
        self.no(self.book([]), paper)

    def test_a_guard_that_holds_by_a_split(self):
        paper = ring(self.TIE, (D, C, 1))
        done = ring((C, C, -1))
        one, two = self.GUARDS
        book = self.book([one, (C, C, -1)])
        self.yes(book, split(two, paper, done))
        self.no(book, split(two, done, paper))
        self.no(book, split(one, paper, done))
        self.yes(book, split(turned(two), done, paper))
        book = self.book([(C, C, -1)])
        self.yes(book, split(one, split(two, paper, done), done))
        self.no(book, split(one, split(two, done, paper), done))
        self.no(book, split(one, split(two, paper, paper), done))

    def test_no_guards(self):
        self.yes(([], [((), (A, A, -1))]), ring((A, A, -1)))
        self.yes(([(D, C, 1)], [((), self.TIE)]), ring(self.TIE, (D, C, 1)))

    def test_a_guard_that_holds_only_as_a_clauses_tie(self):
        one, two = self.GUARDS
        book = self.book([one])
        self.no((book[0], sorted(book[1] + [((), two)])), ring(self.TIE, (D, C, 1)))
        self.no((book[0], sorted(book[1] + [((one,), two)])), ring(self.TIE, (D, C, 1)))

    def test_a_guard_weaker_or_stronger_than_one_that_holds(self):
        one, two = self.GUARDS
        for c in [-2, -1, 1, 2]:
            self.no(self.book([one, (B, A, c)]), ring(self.TIE, (D, C, 1)))

    def test_a_tie_weaker_or_stronger_than_a_clauses(self):
        book = self.book(list(self.GUARDS))
        for c in [-3, -1]:
            self.no((book[0] + [(D, C, 0)], book[1]), ring((C, D, c), (D, C, 0)))

    def test_two_clauses_with_one_tie(self):
        one, two = self.GUARDS
        for ties, answer in [([one], True), ([two], True), ([], False), ([one, two], True)]:
            book = (ties + [(D, C, 1)], [((one,), self.TIE), ((two,), self.TIE)])
            self.told(answer, book, ring(self.TIE, (D, C, 1)))

    def test_several_clauses_in_one_ring(self):
        clauses = [(((A, B, k),), (("pick", k), ("pick", (k + 1) % 5), -1)) for k in range(5)]
        ties = [(A, B, k) for k in range(5)]
        self.yes((ties, clauses), ring(*[tie for guards, tie in clauses]))
        for k in range(5):
            self.no((ties[:k] + ties[k + 1:], clauses), ring(*[tie for guards, tie in clauses]))


class Cases(Papers):
    """Papers of whole cases."""

    def test_a_put_is_read_again(self):
        rows = [("put", "r", ("i", 0), num("v"), 0)]
        rows += [("know", least(num("i"), num("j"))), ("know", least(num("j"), num("i")))]
        goal = least(at("r", "j"), num("v"))
        book = booked(rows, goal)
        v, read = ("start", "v"), ("entry", ("put", 0), (("start", "j"), 0))
        self.yes(book, ring((read, v, -1), (v, read, 0)))
        self.no(booked(rows[:2], goal), ring((read, v, -1), (v, read, 0)))

    def test_an_each_behind_a_put(self):
        """r is at least 0 from 0 to n - 1; r[n] becomes 0; then it is so from 0 to n."""
        rows = [("know", each(("", 0), ("n", -1), "r")), ("put", "r", ("n", 0), ZERO, 0)]
        goal = each(("", 0), ("n", 0), "r")
        book = booked(rows, goal)
        own, n = ("own", 0), ("start", "n")
        new, old = [("entry", version, (own, 0)) for version in [("put", 1), ("row", "r")]]
        below = ring((new, NOUGHT, -1), (NOUGHT, old, 0), (old, new, 0))
        there = ring((new, NOUGHT, -1), (NOUGHT, new, 0))
        paper = split((own, n, -1), below, there)
        self.yes(book, paper)
        self.yes(book, split((own, n, -1), below, split((n, own, 0), there, ring((n, own, 0), (own, n, -1)))))
        self.no(book, split((own, n, -1), there, below))
        self.no(booked(rows[1:], goal), paper)
        self.no(booked(rows, each(("", -1), ("n", 0), "r")), paper)

    def test_a_rise_within_a_rise(self):
        rows = [("know", rise(("i", 0), ("n", 0), "r"))]
        book = booked(rows, rise(("i", 0), ("n", 0), "r"))
        own, other = [("entry", ("row", "r"), (("own", k), 0)) for k in (0, 1)]
        self.yes(book, ring((other, own, -1), (own, other, 0)))
        self.no(booked(rows, rise(("i", -1), ("n", 0), "r")), ring((other, own, -1), (own, other, 0)))

    def test_deep_sources(self):
        rows = [("set", "x", at("r", "x"), 1)] * 30 + [("know", least(num("x"), ZERO, 5))]
        book = booked(rows, least(num("x"), ZERO, 4))
        (deep, nought, c), back = book[0]
        self.assertEqual((nought, back[0]), (NOUGHT, NOUGHT))
        self.yes(book, ring((deep, nought, c), back))
        self.no(book, ring((deep, nought, c - 1), back))


class Many(Papers):
    def some_paper(self, chance, ties, depth):
        if depth == 0 or chance.random() < 0.3:
            at_first = chance.choice(ties)
            some = [at_first]
            while some[-1][1] != some[0][0] and len(some) < 5:
                some.append(chance.choice([tie for tie in ties if tie[0] == some[-1][1]] or ties))
            return ("ring", some)
        inner = [self.some_paper(chance, ties, depth - 1) for way in range(2)]
        return ("split", chance.choice(ties), inner[0], inner[1])

    def test_many(self):
        chance = random.Random(5)
        every = [(x, y, c) for x, y in itertools.product([A, B, C], repeat=2) for c in [-2, -1, 0, 1]]
        seen = {True: 0, False: 0}
        for again in range(20000):
            ties = chance.sample(every, 6)
            clauses = []
            for clause in range(4):
                clauses.append((tuple(chance.sample(every, chance.randint(0, 2))), chance.choice(every)))
            book = (sorted(ties), sorted(clauses))
            paper = self.some_paper(chance, ties + [tie for guards, tie in clauses], 2)
            answer = plainly_holds(book, paper)
            self.assertIs(paper_holds(book, paper), answer)
            seen[answer] += 1
        self.assertGreater(min(seen.values()), 1000)

    def test_the_greatest_book(self):
        ties = [(("pick", k), ("pick", (k + 1) % 420), 0) for k in range(419)] + [(("pick", 419), ("pick", 0), -1)]
        clauses = [(tuple(ties[k:k + 3]), (("own", 0), ("own", 0), -k)) for k in range(1, 418)]
        book = (sorted(ties), sorted(clauses))
        self.assertIs(paper_holds(book, ring(*ties)), True)
        paper = ring((("own", 0), ("own", 0), -9))
        for depth in range(9):
            paper = split((A, B, depth), paper, paper)
        self.assertIs(paper_holds(book, paper), True)
        self.assertIs(paper_holds((book[0][1:], book[1]), ring(*ties)), False)


if __name__ == "__main__":
    unittest.main()
