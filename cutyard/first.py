"""The first answer, in fractions: a walk from corner to corner.

The corner and the ways are kept as whole numbers over one bottom, which is the size
of the held rows' determinant: so each division on the walk leaves no rest.
"""

from cutyard.rows import left, unit
from cutyard.wholes import common, lowest


class Stand:
    """The rows that are held at one time, with the corner and the ways.

    The corner is tops / bottom; the way of the row held[k] is ways[k] / bottom.
    """

    def __init__(self, held, ways, tops, bottom):
        self.held = held
        self.ways = ways
        self.tops = tops
        self.bottom = bottom


def beginning(rows, n):
    """The stand where the n least rows are held."""
    ways = tuple([unit(n, place) for place in range(n)])
    tops = tuple([rows[place][1] for place in range(n)])
    return Stand(tuple(range(n)), ways, tops, 1)


def growths(stand, entries):
    """For each held row, how much the sum of the entries grows along its way, times the bottom."""
    return tuple([left(entries, way) for way in stand.ways])


def over(row, stand):
    """How far the row's sum at the corner is above its bound, times the bottom."""
    return left(row[0], stand.tops) - row[1] * stand.bottom


def missed_row(rows, numbers, stand):
    """The first of the numbers whose row the corner misses, or None."""
    for number in numbers:
        if over(rows[number], stand) < 0:
            return number
    return None


def least_grown(stand, grown):
    """The place of the held row with the least number whose growth is above 0, or None."""
    places = [place for place in range(len(grown)) if grown[place] > 0]
    return min(places, key=lambda place: stand.held[place], default=None)


def stopping_row(rows, numbers, stand, way):
    """Of the numbers that of the row that is met evenly first along the way, of several the first, or None."""
    chosen = None
    chosen_over = 0
    chosen_fall = 1
    for number in numbers:
        fall = -left(rows[number][0], way)
        if fall > 0:
            row_over = over(rows[number], stand)
            # over / fall is how far one can go; both falls are above 0, so this compares the two.
            if chosen is None or row_over * chosen_fall < chosen_over * fall:
                chosen = number
                chosen_over = row_over
                chosen_fall = fall
    return chosen


def moved(numbers, way, shift, size, bottom):
    """The numbers led along the way, from the old bottom to the new one, which is size."""
    return tuple([(size * number - shift * step) // bottom for number, step in zip(numbers, way)])


def exchanged(rows, stand, place, number):
    """The stand where the row of this number is held in the place of the one that is let go."""
    row = rows[number]
    grown = growths(stand, row[0])
    size = abs(grown[place])
    way = stand.ways[place]
    if grown[place] < 0:
        # The new way leads to where the new row's sum grows.
        way = tuple([-step for step in way])
    ways = []
    for other in range(len(grown)):
        if other == place:
            ways.append(way)
        else:
            ways.append(moved(stand.ways[other], way, grown[other], size, stand.bottom))
    tops = moved(stand.tops, way, over(row, stand), size, stand.bottom)
    held = [number if other == place else stand.held[other] for other in range(len(grown))]
    return Stand(tuple(held), tuple(ways), tops, size)


def fallen(stand, grown):
    """The pairs (number, fall) of the held rows along whose ways there is a fall."""
    return [(stand.held[place], -grown[place]) for place in range(len(grown)) if grown[place] < 0]


def in_lowest(pairs, bottom):
    """The pairs (number, weight) and the bottom, the weights and the bottom in lowest terms."""
    reduced = lowest(tuple([pair[1] for pair in pairs]), bottom)
    return ([(pair[0], weight) for pair, weight in zip(pairs, reduced[0])], reduced[1])


def none_ending(stand, number, grown):
    """The ending where no way raises the missed row of this number."""
    reduced = in_lowest(fallen(stand, grown), stand.bottom)
    return ("none", tuple(sorted(reduced[0] + [(number, reduced[1])])))


def best_ending(stand, grown):
    """The ending where the worth grows along no way."""
    reduced = in_lowest(fallen(stand, grown), stand.bottom)
    return ("best", lowest(stand.tops, stand.bottom), tuple(sorted(reduced[0])), reduced[1])


def endless_ending(stand, way):
    """The ending where the way lowers no row."""
    divisor = common(way)
    return ("endless", lowest(stand.tops, stand.bottom), tuple([step // divisor for step in way]))


def next_step(rows, numbers, goal, stand):
    """("step", place let go, number to be held), or the walk's ending."""
    number = missed_row(rows, numbers, stand)
    if number is not None:
        raised = growths(stand, rows[number][0])
        place = least_grown(stand, raised)
        if place is None:
            return none_ending(stand, number, raised)
        return ("step", place, number)
    grown = growths(stand, goal)
    place = least_grown(stand, grown)
    if place is None:
        return best_ending(stand, grown)
    number = stopping_row(rows, numbers, stand, stand.ways[place])
    if number is None:
        return endless_ending(stand, stand.ways[place])
    return ("step", place, number)


def walk_on(rows, numbers, goal, stand):
    """The walk from the stand on, where the rows of the rising numbers are looked at: (trail, last stand, ending)."""
    steps = []
    told = next_step(rows, numbers, goal, stand)
    while told[0] == "step":
        steps.append((stand.held[told[1]], told[2]))
        stand = exchanged(rows, stand, told[1], told[2])
        told = next_step(rows, numbers, goal, stand)
    return (tuple(steps), stand, told)


def walk(rows, goal):
    """The walk from the least rows on: (trail, last stand, ending)."""
    return walk_on(rows, tuple(range(len(rows))), goal, beginning(rows, len(goal)))


def trail(rows, goal):
    """The pairs (let go, held) of the walk, in order."""
    return walk(rows, goal)[0]


def first(rows, goal):
    """How the walk ends: none, endless or best."""
    return walk(rows, goal)[2]
