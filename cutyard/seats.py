"""The door for seats: guests, seats, and offers that bring joy.

At each corner of such a plan all is whole, the divisor too: so its first answer is the best in
whole numbers, and the shares are the prices.
"""

from cutyard.doors import refuse_more, refuse_strange, refuse_twice
from cutyard.first import first
from cutyard.plans import MOST_ROWS, MOST_UNKNOWNS, givens, worth
from cutyard.rows import turned


def refuse_seating(guests, seats, offers):
    """Refuse what is no seating."""
    refuse_more(len(offers), MOST_UNKNOWNS)
    refuse_more(2 * len(guests) + len(seats), MOST_ROWS)
    refuse_twice(guests)
    refuse_twice(seats)
    refuse_strange([offer[0] for offer in offers], guests)
    refuse_strange([offer[1] for offer in offers], seats)
    refuse_twice([(offer[0], offer[1]) for offer in offers])


def marks(names, name):
    """The entries with 1 where the name stands, 0 at the others."""
    return tuple([1 if other == name else 0 for other in names])


def seat_plan(guests, seats, offers):
    """The plan: an unknown for each offer, two rows for each guest, a row for each seat."""
    refuse_seating(guests, seats, offers)
    asked = [offer[0] for offer in offers]
    offered = [offer[1] for offer in offers]
    rows = []
    for guest in guests:
        row = (marks(asked, guest), 1)
        rows.extend([row, turned(row)])
    for seat in seats:
        rows.append(turned((marks(offered, seat), 1)))
    return (((0, None),) * len(offers), tuple(rows), tuple([offer[2] for offer in offers]))


def prices(shares, guests, seats, offers):
    """(guest prices, seat prices): what the shares weigh in the rows, a guest's first row against their second."""
    weights = dict(shares)
    ahead = len(offers)
    of_guests = []
    for place in range(ahead, ahead + 2 * len(guests), 2):
        of_guests.append(weights.get(place + 1, 0) - weights.get(place, 0))
    ahead = ahead + 2 * len(guests)
    of_seats = [weights.get(place, 0) for place in range(ahead, ahead + len(seats))]
    return (tuple(of_guests), tuple(of_seats))


def seats_offered(group, offers):
    """How many seats are offered to at least one of the group."""
    return len(set([offer[1] for offer in offers if offer[0] in group]))


def crowded_group(guests, offers, guest_prices):
    """A group of guests to whom fewer seats are offered than they are many.

    The shares of none leave the guests' prices, signs turned, in sum above those of the seats, while
    no guest's is above that of a seat offered to them. So at some height more guests than
    seats offered to these are so high.
    """
    groups = []
    for height in sorted(guest_prices):
        groups.append(tuple([guest for guest, price in zip(guests, guest_prices) if price <= height]))
    return [group for group in groups if seats_offered(group, offers) < len(group)][0]


def seating(guests, seats, offers):
    """("best", taken, joy, guest prices, seat prices) or ("none", group)."""
    plan = seat_plan(guests, seats, offers)
    told = first(givens(plan), plan[2])
    if told[0] == "none":
        return ("none", crowded_group(guests, offers, prices(told[1], guests, seats, offers)[0]))
    spot = told[1][0]
    taken = dict([(offer[0], offer[1]) for offer, number in zip(offers, spot) if number == 1])
    seats_taken = tuple([taken[guest] for guest in guests])
    return ("best", seats_taken, worth(plan, spot)) + prices(told[2], guests, seats, offers)
