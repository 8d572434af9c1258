"""The calls hand, pickup, tell and payout."""

from postalhouse.moves import ATTEMPT, hand_over, hold_at_counter, put_into_bin, send_back, tell
from postalhouse.ranges import OFFICE, within
from postalhouse.records import AT_COUNTER, WITH_ROUND

HANDED_OVER = 0
NOBODY_THERE = 1
HOWS = (0, 2)


def hand_item(house, given):
    """hand: item, how."""
    item = house.posted.get(given[0])
    how = given[1]
    if item is None:
        return [-5]
    if not within(how, HOWS):
        return [-1]
    if item.place[0] != WITH_ROUND:
        return [-6]
    office = item.place[1]
    if house.rounds[office][0] != item:
        return [-7]
    house.rounds[office].pop(0)
    taken = 0
    if how == HANDED_OVER:
        taken = hand_over(house, office, item)
    elif how == NOBODY_THERE:
        note_attempt(house, office, item)
    else:
        send_back(house, office, item)
    return [how, taken]


def note_attempt(house, office, item):
    """Nobody was there: the item goes out once more, and behind that waits at the counter."""
    item.attempts += 1
    if item.attempts == 1:
        put_into_bin(house, office, item)
    else:
        hold_at_counter(house, office, item)
    tell(house, office, item, ATTEMPT)


def pick_up(house, given):
    """pickup: item."""
    item = house.posted.get(given[0])
    if item is None:
        return [-5]
    if item.place[0] != AT_COUNTER:
        return [-6]
    return [hand_over(house, item.place[1], item)]


def pass_message_on(house, given):
    """tell: message, office."""
    message = given[0]
    office = given[1]
    if not within(office, OFFICE):
        return [-1]
    if not 0 <= message < len(house.messages):
        return [-5]
    if message in house.known[office]:
        return [0]
    house.known[office][message] = True
    return [1]


def pay_out(house, given):
    """payout: order."""
    if not 0 <= given[0] < len(house.orders):
        return [-5]
    order = house.orders[given[0]]
    if order.message not in house.known[order.payer]:
        return [-6]
    if order.paid:
        return [-7]
    order.paid = True
    house.cash[order.payer] -= order.amount
    house.went_out += order.amount
    return [order.amount, order.payer]
