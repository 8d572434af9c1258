"""What the tests share: a play of calls that can be looked into, and asserts about refusals and asking calls."""

import unittest

from postalhouse.house import answer_call, answers
from postalhouse.state import House

COUNTS = {
    "trip": 6, "cancel": 2, "post": 9, "on": 1, "lose": 2, "check": 1, "found": 2,
    "pass_items": 2, "out": 1, "hand": 2, "pickup": 1, "tell": 2, "payout": 1, "claim": 1,
    "giveback": 1, "settle": 0, "item": 1, "office": 1, "said": 2, "knows": 1, "way": 3,
    "latest": 3, "account": 1, "losses": 0, "orders": 0, "runs": 0, "back": 1, "counts": 0,
}
NAMES = list(COUNTS)
NUMBERS = {name: number for number, name in enumerate(NAMES)}
ASKING = NAMES[NUMBERS["item"]:]
HUGE = 10 ** 18


def plain(thing):
    """A house, or anything in it, as lists, tuples and numbers alone."""
    if isinstance(thing, (int, type(None))):
        return thing
    if isinstance(thing, (list, tuple)):
        return [plain(part) for part in thing]
    if isinstance(thing, dict):
        return [(key, plain(part)) for key, part in thing.items()]
    return [(name, plain(part)) for name, part in sorted(vars(thing).items())]


def split(calls):
    """A list of calls as (number, given) pairs."""
    widths = list(COUNTS.values())
    parts = []
    place = 0
    while place < len(calls):
        end = place + 1 + widths[calls[place]]
        parts.append((calls[place], calls[place + 1:end]))
        place = end
    return parts


def split_answers(numbers):
    """What was answered, as one list for each call."""
    parts = []
    place = 0
    while place < len(numbers):
        end = place + 1 + numbers[place]
        parts.append(numbers[place + 1:end])
        place = end
    return parts


class Play:
    """Calls on one house, each answered through `answers` with all those before it."""

    def __init__(self):
        self.calls = []
        self.before = []

    def do(self, name, *given):
        assert len(given) == COUNTS[name], name
        self.calls.extend([NUMBERS[name], *given])
        after = answers(self.calls)
        assert after[:len(self.before)] == self.before
        new = after[len(self.before):]
        assert new[0] == len(new) - 1
        self.before = after
        return new[1:]

    def trip(self, number, origin, to, minute, takes, holds=20):
        return self.do("trip", number, origin, to, minute, takes, holds)

    def post(self, office, number, to, point=0, home=0, rank=0, value=0, cash=0, fee=0):
        return self.do("post", office, number, to, point, home, rank, value, cash, fee)

    def on(self, until):
        return self.do("on", until)

    def on_by_steps(self, until):
        """Go on to a time that is further off than one call reaches; how many messages were told."""
        told = 0
        now = self.house().now
        while now < until:
            now = min(now + 2880, until)
            told += self.on(now)[1]
        return told

    def sort_out(self, office):
        """Two passes of all there is, and out."""
        self.do("pass_items", office, 100)
        self.do("pass_items", office, 100)
        return self.do("out", office)

    def house(self):
        """The house behind the calls, to look into."""
        house = House()
        for call, given in split(self.calls):
            answer_call(house, call, given)
        return house

    def done(self):
        """The calls that belong into the journal, in order: trip to settle, where they weren't refused."""
        pairs = zip(split(self.calls), split_answers(self.before))
        return [call for call, answer in pairs if call[0] <= NUMBERS["settle"] and answer[0] >= 0]

    def messages(self, first=0):
        """The messages from that number on, as (teller, time, item, kind)."""
        return [(told.teller, told.time, told.item, told.kind) for told in self.house().messages[first:]]

    def bin_of(self, office):
        return [item.number for item in self.house().bins[office]]

    def tray_of(self, office):
        return [item.number for item in self.house().trays[office]]

    def round_of(self, office):
        return [item.number for item in self.house().rounds[office]]

    def item(self, number):
        return self.house().posted[number]


def linked_play():
    """Trips 1 (0 to 1, 600 to 720) and 2 (1 to 0, 800 to 860)."""
    play = Play()
    play.trip(1, 0, 1, 600, 120)
    play.trip(2, 1, 0, 800, 60)
    return play


class HouseCase(unittest.TestCase):
    def assert_refused(self, play, refusal, name, *given):
        """The call is refused, with that number alone, and the house is what it was."""
        before = plain(play.house())
        self.assertEqual(play.do(name, *given), [refusal], (name, given))
        self.assertEqual(plain(play.house()), before, (name, given))

    def assert_asks(self, play, expected, name, *given):
        """The call answers so, and the house is what it was, the journal too."""
        before = plain(play.house())
        self.assertEqual(play.do(name, *given), expected, (name, given))
        self.assertEqual(plain(play.house()), before, (name, given))

    def assert_range(self, make, name, good, place, low, high):
        """The number at the place is taken at both ends of its range, and refused with -1 beyond them."""
        for number in (low, high):
            given = list(good)
            given[place] = number
            self.assertGreaterEqual(make().do(name, *given)[0], 0, (name, given))
        for number in (low - 1, high + 1, -HUGE, HUGE):
            given = list(good)
            given[place] = number
            self.assert_refused(make(), -1, name, *given)
