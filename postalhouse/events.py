"""The call on, and what happens as time goes on."""

from postalhouse.moves import COME, LEFT, note_loss, put_into_bin, send_back, tell
from postalhouse.ranges import TIMES, within
from postalhouse.records import AT_COUNTER, ON_RUN, goal_office
from postalhouse.state import CARRIER
from postalhouse.ways import earliest, runs_ahead

LONGEST_STEP = 2880
COUNTER_MINUTES = 10080

# The sorts of events, in the order in which they happen at one time.
RUN_COMES = 0
RUN_GOES = 1
COUNTER_OVER = 2


def go_on(house, given):
    """on: t."""
    until = given[0]
    if not within(until, TIMES):
        return [-1]
    if until < house.now:
        return [-7]
    if until > house.now + LONGEST_STEP:
        return [-9]
    told = len(house.messages)
    event = first_event(house)
    while event is not None and event[0] < until:
        house.now = event[0]
        happen(house, event)
        event = first_event(house)
    house.now = until
    return [until, len(house.messages) - told]


def first_event(house):
    """The event that happens first, as (time, sort, number of the trip or item, day), or None."""
    coming = [(run.comes, RUN_COMES, run.trip.number, run.day) for run in house.under_way]
    going = [(run.goes, RUN_GOES, run.trip.number, run.day) for run in runs_ahead(house)]
    held = [item for item in house.posted.values() if item.place[0] == AT_COUNTER]
    over = [(item.since + COUNTER_MINUTES, COUNTER_OVER, item.number, 0) for item in held]
    return min(coming + going + over, default=None)


def happen(house, event):
    """Do the event; the present time is the event's already."""
    if event[1] == RUN_COMES:
        run_comes(house, house.runs[(event[2], event[3])])
    elif event[1] == RUN_GOES:
        run_goes(house, house.runs[(event[2], event[3])])
    else:
        item = house.posted[event[2]]
        send_back(house, item.place[1], item)


def run_comes(house, run):
    """The run's items come into the bin of its other office, or are found to be missing."""
    house.under_way.remove(run)
    office = run.trip.to
    for item in run.load:
        # An item that was found meanwhile is elsewhere by the books, though it's still on the run's list.
        if item.place != (ON_RUN, run.trip.number, run.day):
            continue
        if item.lost:
            note_loss(house, office, item, CARRIER if run.broken else run.trip.origin)
        else:
            put_into_bin(house, office, item)
            tell(house, office, item, COME)


def run_goes(house, run):
    """The run leaves with the items whose earliest way begins with it."""
    office = run.trip.origin
    run.load = items_for(house, run)
    run.gone = True
    for item in run.load:
        house.bins[office].remove(item)
        item.place = (ON_RUN, run.trip.number, run.day)
        tell(house, office, item, LEFT)
    if run.load:
        house.under_way.append(run)


def items_for(house, run):
    """The items that the run takes along, ranked ones first, as many as it holds; the run is still ahead."""
    office = run.trip.origin
    known = earliest(house, office, house.now)
    fitting = []
    for item in house.bins[office]:
        reached = known.get(goal_office(item))
        if not item.lost and reached is not None and reached[1] == run:
            fitting.append(item)
    return sorted(fitting, key=lambda item: item.rank)[:run.trip.holds]
