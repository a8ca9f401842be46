"""Promises 9, 14 and 15 from below: ties taken in one by one, and books of any sources searched."""

import itertools
import random
import unittest

from outlineward.papers import paper_holds
from outlineward.search import searched
from outlineward.tally import Tally, breaks, give_back, take_in
from outlineward.ties import settled

SOURCES = [("nought",)] + [("start", x) for x in "abcd"]
FAR = 10 ** 18


class Tallies(unittest.TestCase):
    def test_one_by_one(self):
        chance = random.Random(9)
        seen = {"values": 0, "ring": 0}
        for again in range(3000):
            count, far = chance.randint(1, 6), chance.choice([2, 5, FAR])
            tally, ties, ring = Tally(count), [], None
            while ring is None and len(ties) < 14:
                tie = (chance.randrange(count), chance.randrange(count), chance.randint(-far, 2 * far))
                ties.append(tie)
                ring = take_in(tally, tie, len(ties))
                self.assertEqual(settled(count, ties)[0], "values" if ring is None else "ring")
                if ring is None:
                    self.assertFalse(any(breaks(taken, tally.amounts) for taken in ties))
            seen["values" if ring is None else "ring"] += 1
            if ring is not None:
                self.assertLess(sum(tie[2] for tie, why in ring), 0)
                self.assertEqual([tie[1] for tie, why in ring], [tie[0] for tie, why in ring[1:] + ring[:1]])
                for tie, why in ring:
                    self.assertEqual(ties[why - 1], tie)
        self.assertGreater(min(seen.values()), 200, seen)

    def test_given_back(self):
        tally = Tally(3)
        self.assertIsNone(take_in(tally, (1, 0, -2), 0))
        amounts = list(tally.amounts)
        self.assertIsNone(take_in(tally, (2, 1, -3), 0))
        self.assertIsNotNone(take_in(tally, (0, 2, 4), 0))
        give_back(tally, 1, amounts)
        self.assertEqual(tally.amounts, amounts)
        self.assertIsNone(take_in(tally, (0, 2, 4), 0))
        self.assertIsNotNone(take_in(tally, (0, 1, 1), 0))


class Books(unittest.TestCase):
    def some_tie(self, chance, far):
        return (chance.choice(SOURCES), chance.choice(SOURCES), chance.randint(-far, far))

    def test_many(self):
        chance = random.Random(10)
        seen = {"paper": 0, "amounts": 0}
        for again in range(4000):
            far = chance.choice([1, 2, FAR])
            ties = sorted({self.some_tie(chance, far) for tie in range(chance.randint(0, 4))})
            clauses = set()
            for clause in range(chance.randint(0, 12)):
                guards = tuple(self.some_tie(chance, far) for guard in range(chance.randint(0, 3)))
                clauses.add((guards, self.some_tie(chance, far)))
            book = (ties, sorted(clauses))
            word, told = searched(book)
            seen[word] += 1
            if word == "paper":
                self.assertIs(paper_holds(book, told), True, (book, told))
            else:
                amounts = dict(told)
                self.assertEqual(amounts[("nought",)], 0)
                self.assertTrue(all(self.true(tie, amounts) for tie in ties), book)
                for guards, tie in clauses:
                    self.assertTrue(self.true(tie, amounts) or not all(self.true(guard, amounts) for guard in guards))
        self.assertGreater(min(seen.values()), 500, seen)

    def true(self, tie, amounts):
        return amounts[tie[0]] <= amounts[tie[1]] + tie[2]

    def test_small_papers(self):
        """A paper that doesn't hang on a split does without it."""
        a, b, c, d = SOURCES[1:]
        apart = [(((a, b, 0),), (a, c, 5)), (((b, a, -1),), (c, a, -9))]
        book = ([(c, d, -1), (d, c, 0)], sorted(apart))
        self.assertEqual(searched(book)[1][0], "ring")

    def test_no_ties(self):
        self.assertEqual(searched(([], [])), ("amounts", [(("nought",), 0)]))

    def test_every_order(self):
        """Each order of three is ruled out by a clause of its own."""
        a, b, c = SOURCES[1:4]
        clauses = []
        for x, y, z in itertools.permutations([a, b, c]):
            clauses.append((((x, y, 0), (y, z, 0)), (a, a, -1)))
        word, paper = searched(([], sorted(clauses)))
        self.assertEqual(word, "paper")
        self.assertIs(paper_holds(([], sorted(clauses)), paper), True)
        for lacking in range(6):
            self.assertEqual(searched(([], sorted(clauses[:lacking] + clauses[lacking + 1:])))[0], "amounts")


if __name__ == "__main__":
    unittest.main()
