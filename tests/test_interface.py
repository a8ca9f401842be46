"""The interface: each name is there, with its arguments as they stand."""

import importlib
import inspect
import unittest

PROMISED = {
    "errors.NoText": ["line"],
    "stairs.stairs": ["base", "pairs"],
    "stairs.entry": ["row", "p"],
    "stairs.written": ["row", "p", "v"],
    "claims.place_at": ["place", "numbers"],
    "claims.term_at": ["term", "numbers", "rows"],
    "claims.holds": ["claim", "numbers", "rows"],
    "claims.turned": ["least"],
    "claims.said": ["claim", "names"],
    "checks.check": ["program"],
    "checks.numbers_of": ["proc"],
    "reader.read": ["text"],
    "reader.read_claim": ["text"],
    "writer.shown": ["program"],
    "writer.claim_text": ["claim"],
    "ties.settled": ["count", "ties"],
    "straight.through": ["rows", "start"],
    "book.booked": ["rows", "goal"],
    "book.spots": ["rows", "goal"],
    "book.width": ["rows", "goal"],
    "papers.paper_holds": ["book", "paper"],
    "deciding.decided": ["rows", "goal"],
    "duties.duties": ["program"],
    "judging.judged": ["program"],
    "running.run": ["program", "f", "numbers", "rows", "inputs", "most"],
    "finding.greatest": ["program", "f", "path", "menu"],
    "reaching.reached": ["program", "f", "most"],
    "desk.judged_text": ["text"],
    "desk.run_text": ["text", "numbers", "inputs", "most"],
}


class Interface(unittest.TestCase):
    def test_names_and_arguments(self):
        for promised, arguments in PROMISED.items():
            module, name = promised.split(".")
            thing = getattr(importlib.import_module("outlineward." + module), name)
            self.assertEqual(list(inspect.signature(thing).parameters), arguments, promised)


if __name__ == "__main__":
    unittest.main()
