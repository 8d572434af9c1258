"""The calls trip, cancel and post."""

from postalhouse.moves import POSTED, put_into_bin, tell
from postalhouse.ranges import all_within, within
from postalhouse.records import Item, Run, Trip
from postalhouse.ways import earliest, is_ahead

MOST_TRIPS = 6
MOST_ITEMS = 20
DAYS = (0, 20)
TRIP_RANGES = ((1, 99), (0, 3), (0, 3), (0, 1439), (1, 2880), (1, 20))
POST_RANGES = ((0, 3), (1, 999), (0, 3), (0, 8), (0, 8), (0, 3), (0, 100000), (0, 100000), (0, 1000))


def add_trip(house, given):
    """trip: number, origin, to, minute, takes, holds."""
    number = given[0]
    if not all_within(given, TRIP_RANGES) or given[1] == given[2]:
        return [-1]
    if number in house.trips:
        return [-2]
    if len(house.trips) == MOST_TRIPS:
        return [-3]
    trip = Trip(given)
    house.trips[number] = trip
    for day in range(DAYS[0], DAYS[1] + 1):
        house.runs[(number, day)] = Run(trip, day)
    return [len(house.trips)]


def cancel_run(house, given):
    """cancel: trip, day."""
    if given[0] not in house.trips:
        return [-5]
    if not within(given[1], DAYS):
        return [-1]
    run = house.runs[(given[0], given[1])]
    if not is_ahead(house, run):
        return [-6]
    run.cancelled = True
    return [len([other for other in house.runs.values() if other.cancelled])]


def post_item(house, given):
    """post: office, number, to, point, home, rank, value, cash, fee."""
    office = given[0]
    number = given[1]
    if not all_within(given, POST_RANGES) or office == given[2]:
        return [-1]
    if number in house.posted:
        return [-2]
    if len(house.posted) == MOST_ITEMS:
        return [-3]
    promise = earliest(house, office, house.now).get(given[2])
    item = Item(given, None if promise is None else promise[0])
    house.posted[number] = item
    put_into_bin(house, office, item)
    tell(house, office, item, POSTED)
    house.cash[office] += given[8]
    house.came_in += given[8]
    return [0, -1 if item.promise is None else item.promise]
