"""The door for covers: things that need sets, and sets that cost."""

from cutyard.doors import refuse_more, refuse_strange, refuse_twice
from cutyard.plans import MOST_ROWS, MOST_UNKNOWNS, worth
from cutyard.settle import settled


def refuse_cover(things, sets):
    """Refuse what is no cover."""
    refuse_more(len(things), MOST_ROWS)
    refuse_more(len(sets), MOST_UNKNOWNS)
    names = [thing[0] for thing in things]
    refuse_twice(names)
    refuse_twice([offer[0] for offer in sets])
    for offer in sets:
        refuse_twice(offer[2])
    for offer in sets:
        refuse_strange(offer[2], names)


def cover_plan(things, sets):
    """The plan: an unknown from 0 to 1 for each set, a row for each thing."""
    refuse_cover(things, sets)
    rows = []
    for name, need in things:
        rows.append((tuple([1 if name in offer[2] else 0 for offer in sets]), need))
    return (((0, 1),) * len(sets), tuple(rows), tuple([-offer[1] for offer in sets]))


def short_thing(things, plan):
    """The name of the first thing that has its need not even where all sets are taken, or None."""
    for thing, row in zip(things, plan[1]):
        if sum(row[0]) < row[1]:
            return thing[0]
    return None


def cover(things, sets):
    """("best", names of the sets taken, cost) or ("none", name of a thing)."""
    plan = cover_plan(things, sets)
    name = short_thing(things, plan)
    if name is not None:
        return ("none", name)
    spot = settled(plan)[1]
    taken = tuple([offer[0] for offer, number in zip(sets, spot) if number == 1])
    return ("best", taken, -worth(plan, spot))
