"""The door for roads: places, roads between them, and the shortest walk from a start to a goal."""

from cutyard.doors import refuse_more, refuse_strange, refuse_twice
from cutyard.plans import MOST_ROWS, MOST_UNKNOWNS
from cutyard.walks import roads_within, shortest_walks, useful_places, walk_length, walks_from


def refuse_roads(places, roads, start, goal):
    """Refuse what can't be asked of roads."""
    refuse_more(len(places), MOST_UNKNOWNS)
    refuse_more(len(roads), MOST_ROWS)
    refuse_twice(places)
    for leg in roads:
        refuse_strange((leg[0], leg[1]), places)
    refuse_strange((start, goal), places)


def differences(names, one, other):
    """The entries with 1 at the one name and -1 at the other, noughts where both are one name."""
    return tuple([(1 if name == one else 0) - (1 if name == other else 0) for name in names])


def road_plan(places, roads, start, goal):
    """The plan: an unknown for each useful place, its height, and a row for each road between two of them."""
    refuse_roads(places, roads, start, goal)
    useful = useful_places(places, roads, start, goal)
    rows = []
    for number in roads_within(roads, useful):
        leg = roads[number]
        rows.append((differences(useful, leg[0], leg[1]), -leg[2]))
    return (((0, None),) * len(useful), tuple(rows), differences(useful, goal, start))


def road(places, roads, start, goal):
    """("wall", reached), ("road", walk, length, heights) or ("ring", walk, ring, on)."""
    refuse_roads(places, roads, start, goal)
    reached = walks_from(roads, start)
    if goal not in reached:
        return ("wall", tuple([place for place in places if place in reached]))
    told = shortest_walks(roads, useful_places(places, roads, start, goal), start)
    if told[0] == "ring":
        ring = told[2]
        return told + (walks_from(roads, roads[ring[0]][0])[goal],)
    walks = told[1]
    heights = tuple([walk_length(roads, walks[place]) if place in walks else None for place in places])
    return ("road", walks[goal], walk_length(roads, walks[goal]), heights)
