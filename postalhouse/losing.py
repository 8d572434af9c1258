"""The calls lose, check, found, claim and giveback."""

from postalhouse.accounts import take_debt_back
from postalhouse.moves import FOUND, note_loss, put_into_bin, tell
from postalhouse.ranges import OFFICE, within
from postalhouse.records import IN_BIN, ON_RUN

BROKEN = (0, 1)


def lose_item(house, given):
    """lose: item, broken."""
    item = house.posted.get(given[0])
    broken = given[1]
    if item is None:
        return [-5]
    if not within(broken, BROKEN):
        return [-1]
    where = item.place[0]
    if where not in (IN_BIN, ON_RUN) or item.lost or (where == IN_BIN and broken == 1):
        return [-6]
    item.lost = True
    if where == IN_BIN:
        return [0]
    run = house.runs[(item.place[1], item.place[2])]
    run.broken = run.broken or broken == 1
    return [1]


def check_bin(house, given):
    """check: office."""
    office = given[0]
    if not within(office, OFFICE):
        return [-1]
    missing = [item for item in house.bins[office] if item.lost]
    for item in missing:
        house.bins[office].remove(item)
        note_loss(house, office, item, office)
    return [len(missing)]


def find_item(house, given):
    """found: office, item."""
    office = given[0]
    if not within(office, OFFICE):
        return [-1]
    item = house.posted.get(given[1])
    if item is None:
        return [-5]
    if not item.lost:
        return [-6]
    if item.place[0] == IN_BIN:
        house.bins[item.place[1]].remove(item)
    for loss in house.losses:
        if loss.item == item.number:
            loss.cleared = True
    item.lost = False
    put_into_bin(house, office, item)
    tell(house, office, item, FOUND)
    return [0]


def claim_loss(house, given):
    """claim: item."""
    item = house.posted.get(given[0])
    if item is None:
        return [-5]
    due = [loss for loss in house.losses if loss.item == item.number and not loss.cleared and not loss.paid]
    if not due:
        return [-6]
    loss = due[-1]
    loss.paid = True
    house.cash[item.origin] -= item.value
    house.went_out += item.value
    # A party never owes itself anything.
    if loss.party != item.origin:
        house.debts[loss.party][item.origin] += item.value
    return [item.value, loss.party]


def give_back(house, given):
    """giveback: item."""
    item = house.posted.get(given[0])
    if item is None:
        return [-5]
    due = [loss for loss in house.losses if loss.item == item.number and loss.cleared and loss.paid]
    if not due:
        return [-6]
    loss = due[-1]
    loss.paid = False
    house.cash[item.origin] += item.value
    house.came_in += item.value
    # A party that answered to itself owed nothing.
    if loss.party != item.origin:
        take_debt_back(house, loss.party, item.origin, item.value)
    return [item.value, loss.party]
