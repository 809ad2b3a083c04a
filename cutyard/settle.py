"""How a plan is settled: a best answer, none, or an endless growth."""

from cutyard.climbs import Climb
from cutyard.first import first
from cutyard.plans import givens
from cutyard.search import found


def settled(plan):
    """("best", spot, paper), ("none", paper) or ("endless", spot, ray)."""
    rows = givens(plan)
    goal = plan[2]
    told = found(rows)
    if told[0] == "none":
        return told
    ending = first(rows, goal)
    if ending[0] == "endless":
        return ("endless", told[1], ending[2])
    climb = Climb(rows, goal, told[1])
    lines = climb.barred()
    return ("best", climb.spot, tuple(lines))
