"""Programs judged: kept, with a paper for each duty, or broken at a duty, with a start in which it fails."""

from outlineward.deciding import decided
from outlineward.duties import duties


def judged(program):
    """("kept", papers), or ("broken", n, start), n the number of the first duty that isn't kept."""
    papers = []
    for n, duty in enumerate(duties(program)):
        straight, goal = duty[4:]
        word, told = decided(straight, goal)
        if word == "stand":
            return ("broken", n, told)
        papers.append(told)
    return ("kept", papers)
