"""Walks along roads: where they lead, and how short they can be. A walk is a tuple of numbers of roads."""


def walk_length(roads, walk):
    """The sum of the lengths of the walk's roads."""
    return sum([roads[number][2] for number in walk])


def walks_from(roads, start):
    """A dict that has for each place that is reached from the start a walk to it."""
    walks = {start: ()}
    waiting = [start]
    while len(waiting) > 0:
        place = waiting.pop()
        for number, road in enumerate(roads):
            if road[0] == place and road[1] not in walks:
                walks[road[1]] = walks[place] + (number,)
                waiting.append(road[1])
    return walks


def useful_places(places, roads, start, goal):
    """The places that are reached and from which a walk leads to the goal, in their order."""
    reached = walks_from(roads, start)
    return tuple([place for place in places if place in reached and goal in walks_from(roads, place)])


def roads_within(roads, places):
    """The numbers of the roads that lead from one of the places to one of them."""
    return tuple([number for number, road in enumerate(roads) if road[0] in places and road[1] in places])


def shortened(roads, numbers, walks):
    """The walks, each in the place of the one so far where it is shorter by one more of the roads of the numbers."""
    shorter = dict(walks)
    for number in numbers:
        road = roads[number]
        if road[0] in walks:
            walk = walks[road[0]] + (number,)
            if road[1] not in shorter or walk_length(roads, walk) < walk_length(roads, shorter[road[1]]):
                shorter[road[1]] = walk
    return shorter


def ring_parts(roads, start, walk):
    """(ahead, ring): the walk to the first place to which it comes twice, and what of it leads back there; or None."""
    came = {start: 0}
    for place, number in enumerate(walk):
        end = roads[number][1]
        if end in came:
            return (walk[:came[end]], walk[came[end]:place + 1])
        came[end] = place + 1
    return None


def shortest_walks(roads, places, start):
    """("short", walks), shortest ones from the start to each of the places, or ("ring", ahead, ring).

    The places are reached from the start by way of places alone. A walk of as many roads as there are
    places comes twice to one of them; where it is shorter than all with fewer roads, the ring that it
    goes there has a length below 0.
    """
    numbers = roads_within(roads, places)
    walks = {start: ()}
    for turn in range(len(places) - 1):
        walks = shortened(roads, numbers, walks)
    last = shortened(roads, numbers, walks)
    for place in places:
        if last[place] != walks[place]:
            return ("ring",) + ring_parts(roads, start, last[place])
    return ("short", walks)
