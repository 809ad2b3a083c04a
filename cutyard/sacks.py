"""The door for sacks: kinds of pieces that have a worth and weights, and limits that have a room."""

from cutyard.doors import refuse_more, refuse_twice
from cutyard.errors import BelowNought
from cutyard.plans import MOST_ROWS, MOST_UNKNOWNS, worth
from cutyard.settle import settled


def refuse_below(numbers):
    """Refuse numbers of which one is below nought."""
    if any([number < 0 for number in numbers]):
        raise BelowNought()


def refuse_sack(limits, kinds):
    """Refuse what is no sack."""
    refuse_more(len(limits), MOST_ROWS)
    refuse_more(len(kinds), MOST_UNKNOWNS)
    refuse_twice([limit[0] for limit in limits])
    refuse_twice([kind[0] for kind in kinds])
    refuse_below([limit[1] for limit in limits])
    refuse_below([kind[2] for kind in kinds if kind[2] is not None])
    for kind in kinds:
        refuse_below(kind[3])


def sack_plan(limits, kinds):
    """The plan: an unknown for each kind, a row for each limit."""
    refuse_sack(limits, kinds)
    bounds = tuple([(0, kind[2]) for kind in kinds])
    rows = []
    for place, limit in enumerate(limits):
        rows.append((tuple([-kind[3][place] for kind in kinds]), -limit[1]))
    return (bounds, tuple(rows), tuple([kind[1] for kind in kinds]))


def endless_kind(kinds):
    """The name of the first kind of which ever more fit and are worth more, or None."""
    for name, value, most, weights in kinds:
        if most is None and value > 0 and all([weight == 0 for weight in weights]):
            return name
    return None


def sack(limits, kinds):
    """("endless", name of a kind) or ("best", counts, worth)."""
    plan = sack_plan(limits, kinds)
    name = endless_kind(kinds)
    if name is not None:
        return ("endless", name)
    counts = settled(plan)[1]
    return ("best", counts, worth(plan, counts))
