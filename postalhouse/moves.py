"""What offices do with items, whichever call or event it comes from: tell of them, put them, give them away."""

from postalhouse.records import AT_COUNTER, ENDED, IN_BIN, MISSING, Loss, Message, Order

POSTED = 0
COME = 1
LEFT = 2
OUT = 3
ATTEMPT = 4
GOES_BACK = 5
DELIVERED = 6
RETURNED = 7
DESTROYED = 8
NOTED_MISSING = 9
FOUND = 10
ORDERED = 11

END_DELIVERED = 0
END_RETURNED = 1
END_DESTROYED = 2


def tell(house, office, item, kind):
    """The office tells a message of the item, and so knows it; gives back the message's number."""
    number = len(house.messages)
    house.messages.append(Message(office, house.now, item.number, kind))
    house.known[office][number] = True
    return number


def put_into_bin(house, office, item):
    """The item is in the office's bin, behind the others."""
    house.bins[office].append(item)
    item.place = (IN_BIN, office, 0)


def hold_at_counter(house, office, item):
    """The item is held at the office's counter from now on."""
    item.place = (AT_COUNTER, office, 0)
    item.since = house.now


def note_loss(house, office, item, party):
    """The office finds out that the item is missing, and the party answers."""
    item.place = (MISSING, party, 0)
    house.losses.append(Loss(item.number, party, house.now))
    tell(house, office, item, NOTED_MISSING)


def send_back(house, office, item):
    """The office sends the item back, or ends it if it goes back already."""
    if item.goes_back:
        item.place = (ENDED, END_DESTROYED, office)
        tell(house, office, item, DESTROYED)
        return
    item.goes_back = True
    item.attempts = 0
    put_into_bin(house, office, item)
    tell(house, office, item, GOES_BACK)


def hand_over(house, office, item):
    """The office hands the item over; gives back the cash it takes for it."""
    if item.goes_back:
        item.place = (ENDED, END_RETURNED, office)
        tell(house, office, item, RETURNED)
        return 0
    item.place = (ENDED, END_DELIVERED, office)
    tell(house, office, item, DELIVERED)
    if item.cash > 0:
        take_cash(house, office, item)
    return item.cash


def take_cash(house, office, item):
    """The office takes the item's cash on delivery, and orders that the item's office of origin pay it."""
    house.cash[office] += item.cash
    house.came_in += item.cash
    house.debts[office][item.origin] += item.cash
    message = tell(house, office, item, ORDERED)
    house.orders.append(Order(item, office, message))
