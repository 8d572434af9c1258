"""The calls pass and out: the sorting machine, and rounds that begin."""

from postalhouse.moves import OUT, put_into_bin, tell
from postalhouse.ranges import OFFICE, within
from postalhouse.records import ON_TRAY, WITH_ROUND, goal_office, goal_point

MACHINE_BINS = 3
PASS_ITEMS = (0, 100)


def pass_items(house, given):
    """pass: office, n."""
    office = given[0]
    most = given[1]
    if not within(office, OFFICE) or not within(most, PASS_ITEMS):
        return [-1]
    if house.passes[office] == 2:
        return [-6]
    if house.passes[office] == 1:
        return second_pass(house, office, most)
    due = [item for item in house.bins[office] if not item.lost and goal_office(item) == office]
    if not due:
        return [-7]
    return first_pass(house, office, due[:most])


def first_bin(item):
    """The machine's bin for the item at the first pass."""
    return goal_point(item) % MACHINE_BINS


def second_bin(item):
    """The machine's bin for the item at the second pass."""
    return goal_point(item) // MACHINE_BINS


def first_pass(house, office, through):
    """These items of the office's bin go through the machine and are on the tray."""
    for item in through:
        house.bins[office].remove(item)
        item.place = (ON_TRAY, office, 0)
    # Sorting by the machine's bin keeps the order in which each one was filled.
    house.trays[office] = sorted(through, key=first_bin)
    house.passes[office] = 1 if through else 0
    return [len(through), house.passes[office]]


def second_pass(house, office, most):
    """The first ones of the tray go through the machine, the others back into the bin."""
    through = house.trays[office][:most]
    for item in house.trays[office][most:]:
        put_into_bin(house, office, item)
    house.trays[office] = sorted(through, key=second_bin)
    house.passes[office] = 2 if through else 0
    return [len(through), house.passes[office]]


def begin_round(house, given):
    """out: office."""
    office = given[0]
    if not within(office, OFFICE):
        return [-1]
    if house.passes[office] != 2:
        return [-6]
    if house.rounds[office]:
        return [-8]
    house.rounds[office] = house.trays[office]
    house.trays[office] = []
    house.passes[office] = 0
    for item in house.rounds[office]:
        item.place = (WITH_ROUND, office, 0)
        tell(house, office, item, OUT)
    return [len(house.rounds[office])]
