"""What a house keeps of one thing: a trip, a run, an item, a message, an order, a loss."""

DAY_MINUTES = 1440

IN_BIN = 0
ON_RUN = 1
ON_TRAY = 2
WITH_ROUND = 3
AT_COUNTER = 4
ENDED = 5
MISSING = 6


class Trip:
    """A daily trip from one office to another."""

    def __init__(self, given):
        self.number = given[0]
        self.origin = given[1]
        self.to = given[2]
        self.minute = given[3]
        self.takes = given[4]
        self.holds = given[5]


class Run:
    """A trip on one of its days, with the list of what it carries once it has gone."""

    def __init__(self, trip, day):
        self.trip = trip
        self.day = day
        self.goes = day * DAY_MINUTES + trip.minute
        self.comes = self.goes + trip.takes
        self.cancelled = False
        self.gone = False
        self.broken = False
        self.load = []


class Item:
    """An item. Its place is where it is by the books: one of the numbers above and two that tell it closer."""

    def __init__(self, given, promise):
        self.origin = given[0]
        self.number = given[1]
        self.to = given[2]
        self.point = given[3]
        self.home = given[4]
        self.rank = given[5]
        self.value = given[6]
        self.cash = given[7]
        self.promise = promise
        self.attempts = 0
        self.goes_back = False
        self.lost = False
        self.place = (IN_BIN, self.origin, 0)
        self.since = 0


class Message:
    """What an office told of an item, and when."""

    def __init__(self, teller, time, item, kind):
        self.teller = teller
        self.time = time
        self.item = item
        self.kind = kind


class Order:
    """Cash taken for an item at one office, to be paid by another."""

    def __init__(self, item, taker, message):
        self.item = item.number
        self.amount = item.cash
        self.taker = taker
        self.payer = item.origin
        self.message = message
        self.paid = False


class Loss:
    """An item that was found to be missing, and the party that answers for it."""

    def __init__(self, item, party, time):
        self.item = item
        self.party = party
        self.time = time
        self.cleared = False
        self.paid = False


def goal_office(item):
    """The office that the item goes to now."""
    return item.origin if item.goes_back else item.to


def goal_point(item):
    """The point that the item goes to now."""
    return item.home if item.goes_back else item.point
