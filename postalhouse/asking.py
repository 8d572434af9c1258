"""The calls that ask what there is and who knows of it: item, office, said, knows, losses, orders, runs."""

from postalhouse.ranges import OFFICE, within
from postalhouse.records import AT_COUNTER
from postalhouse.rows import row, row_of

MOST_KNOWN = 20


def as_number(yes):
    """1 for what is so, 0 for what isn't."""
    return 1 if yes else 0


def numbers_of(things):
    """The numbers of these items."""
    return [item.number for item in things]


def answer_item(house, given):
    """item: item."""
    item = house.posted.get(given[0])
    if item is None:
        return [-5]
    promise = -1 if item.promise is None else item.promise
    return [0] + list(item.place) + [promise, as_number(item.lost), as_number(item.goes_back), item.attempts]


def answer_office(house, given):
    """office: office."""
    office = given[0]
    if not within(office, OFFICE):
        return [-1]
    held = [item for item in house.posted.values() if item.place == (AT_COUNTER, office, 0)]
    answer = [house.passes[office]]
    for things in (house.bins[office], house.trays[office], house.rounds[office], held):
        answer.extend(row(numbers_of(things)))
    return answer


def answer_said(house, given):
    """said: office, item."""
    if not within(given[0], OFFICE):
        return [-1]
    if given[1] not in house.posted:
        return [-5]
    about = [number for number in house.known[given[0]] if house.messages[number].item == given[1]]
    if not about:
        return [0]
    # Messages are numbered as time goes on: the greatest number was told last.
    last = house.messages[max(about)]
    return [len(about), last.kind, last.teller, last.time]


def answer_knows(house, given):
    """knows: office."""
    if not within(given[0], OFFICE):
        return [-1]
    known = list(house.known[given[0]])
    return [len(known)] + row(known[-MOST_KNOWN:])


def answer_losses(house):
    """losses."""
    records = [
        [loss.item, loss.party, loss.time, as_number(loss.cleared), as_number(loss.paid)] for loss in house.losses
    ]
    return [len(records)] + row_of(records)


def answer_orders(house):
    """orders."""
    records = [
        [order.item, order.amount, order.taker, order.payer, order.message, as_number(order.paid)]
        for order in house.orders
    ]
    return [len(records)] + row_of(records)


def answer_runs(house):
    """runs."""
    records = [[run.trip.number, run.day, run.comes, len(run.load)] for run in house.under_way]
    return [len(records)] + row_of(records)
