"""What several tests hold of every answer: that it is new, and that nothing that was handed in is changed."""

import copy

from outlineward.book import booked
from outlineward.claims import holds
from outlineward.deciding import decided
from outlineward.duties import duties
from outlineward.papers import paper_holds
from outlineward.stairs import stairs
from outlineward.straight import through


def containers(thing):
    """All lists and dicts within the thing, as often as they stand there."""
    told = []
    if isinstance(thing, (list, dict)):
        told.append(thing)
    if isinstance(thing, (list, tuple)):
        for inner in thing:
            told.extend(containers(inner))
    if isinstance(thing, dict):
        for key, inner in thing.items():
            told.extend(containers(inner))
    return told


def asked(test, function, *handed):
    """What the function answers; held besides: promise 1, as far as it can be seen from without."""
    before = copy.deepcopy(handed)
    answer = function(*handed)
    told = copy.deepcopy(answer)
    test.assertEqual(handed, before)
    found = [id(thing) for thing in containers(answer)]
    test.assertEqual(len(found), len(set(found)), "a list or dict stands twice")
    test.assertEqual(set(found) & {id(thing) for thing in containers(list(handed))}, set())
    for thing in containers(answer):
        thing.clear()
    test.assertEqual(handed, before)
    test.assertEqual(function(*handed), told)
    test.assertEqual(function(*copy.deepcopy(handed)), told)
    return told


def is_whole(number):
    return isinstance(number, int) and not isinstance(number, bool)


def is_stairs(row):
    """Whether it is stairs as in promise 4."""
    if not (isinstance(row, tuple) and len(row) == 2 and is_whole(row[0]) and isinstance(row[1], tuple)):
        return False
    places = []
    for step in row[1]:
        if not (isinstance(step, tuple) and len(step) == 2 and is_whole(step[0]) and is_whole(step[1])):
            return False
        places.append(step[0])
    return len(set(places)) == len(places) and row == stairs(row[0], list(row[1]))


def hold_start(test, rows, goal, start):
    """The start goes through, the goal is untrue at the end, and its numbers and rows are such."""
    where = (rows, goal, start)
    test.assertIs(type(start), tuple, where)
    test.assertEqual([type(thing) for thing in start], [dict, dict, list], where)
    numbers, held, picks = start
    test.assertTrue(all(isinstance(x, str) and is_whole(numbers[x]) for x in numbers), where)
    test.assertTrue(all(isinstance(r, str) and is_stairs(held[r]) for r in held), where)
    taken = [row[0] for row in rows if row[0] in ("any", "lose")]
    test.assertLessEqual(len(picks), len(taken), where)
    for kind, pick in zip(taken, picks):
        test.assertTrue(is_whole(pick) if kind == "any" else is_stairs(pick), where)
    end = through(rows, start)
    test.assertEqual(end[0], "through", where)
    test.assertIs(holds(goal, end[1], end[2]), False, where)


def hold_paper(test, rows, goal, paper):
    test.assertIs(paper_holds(booked(rows, goal), paper), True, (rows, goal, paper))


def hold_decided(test, rows, goal, answer):
    """The answer to a case, held against the document by itself; which of both it is."""
    test.assertIs(type(answer), tuple)
    test.assertEqual(len(answer), 2)
    word, told = answer
    test.assertIn(word, ("kept", "stand"))
    if word == "kept":
        hold_paper(test, rows, goal, told)
    else:
        hold_start(test, rows, goal, told)
    return word


def some_stairs(chance, low=-3, high=3):
    places = chance.sample(range(low - 1, high + 2), chance.randint(0, 4))
    return stairs(chance.randint(low, high), [(p, chance.randint(low, high)) for p in places])


def some_start(chance, rows, names, held):
    """A start with small numbers for these names and rows."""
    picks = []
    for row in rows:
        if row[0] == "any":
            picks.append(chance.randint(-3, 3))
        elif row[0] == "lose":
            picks.append(some_stairs(chance))
    return ({x: chance.randint(-3, 3) for x in names}, {r: some_stairs(chance) for r in held}, picks)


def hold_judged(test, program, answer):
    """The answer of a judging, held against the document by itself; the name of the first broken duty, or None."""
    found = duties(program)
    test.assertIs(type(answer), tuple)
    if answer[0] == "kept":
        test.assertEqual(len(answer), 2)
        test.assertIs(type(answer[1]), list)
        test.assertEqual(len(answer[1]), len(found))
        for duty, paper in zip(found, answer[1]):
            hold_paper(test, duty[4], duty[5], paper)
        return None
    word, n, start = answer
    test.assertEqual(word, "broken")
    test.assertTrue(is_whole(n))
    for duty in found[:n]:
        test.assertEqual(hold_decided(test, duty[4], duty[5], decided(duty[4], duty[5])), "kept", duty)
    hold_start(test, found[n][4], found[n][5], start)
    return found[n][:4]
