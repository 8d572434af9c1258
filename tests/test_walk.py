"""Long mixed sessions from a fixed seed: the books agree with one another behind every call."""

import random
import unittest

from postalhouse.house import answer_call, answers
from postalhouse.state import House
from tests.helper import HUGE, NUMBERS, plain

IN_BIN, ON_RUN, ON_TRAY, WITH_ROUND, AT_COUNTER, ENDED, MISSING = range(7)


def near(source, low, high):
    """Mostly a number of the range, now and then one at its edge or beyond."""
    if source.random() < 0.03:
        return source.choice((low, high, low - 1, high + 1, HUGE, -HUGE))
    return source.randint(low, high)


def some_item(source, house):
    if house.posted and source.random() < 0.97:
        return source.choice(list(house.posted))
    return near(source, 1, 999)


def next_in_round(source, house):
    heads = [line[0].number for line in house.rounds if line]
    if heads and source.random() < 0.8:
        return source.choice(heads)
    return some_item(source, house)


def given_for(source, house, name):
    office = near(source, 0, 3)
    if name == "trip":
        to = (office + source.randint(1, 3)) % 4
        return [near(source, 1, 99), office, to, near(source, 0, 1439), near(source, 1, 900), near(source, 1, 3)]
    if name == "cancel":
        return [source.choice(list(house.trips) or [5]), near(source, 0, 20)]
    if name == "post":
        to = (office + source.randint(1, 3)) % 4
        most = (8, 8, 3, 100000, 100000, 1000)
        return [office, near(source, 1, 999), to] + [near(source, 0, top) for top in most]
    if name == "on":
        return [house.now + near(source, 0, 1600)]
    if name == "lose":
        return [some_item(source, house), near(source, 0, 1)]
    if name in ("check", "out"):
        return [office]
    if name == "found":
        lost = [item.number for item in house.posted.values() if item.lost]
        return [office, source.choice(lost or [3])]
    if name == "pass_items":
        return [office, near(source, 0, 9)]
    if name == "hand":
        return [next_in_round(source, house), near(source, 0, 2)]
    if name == "tell":
        return [near(source, 0, max(len(house.messages) - 1, 0)), office]
    if name == "payout":
        return [near(source, 0, max(len(house.orders) - 1, 0))]
    return [some_item(source, house)]


def next_call(source, house, steps):
    """Any call; on only while fewer than 40 steps were taken."""
    often = ("on", "pass_items", "out", "hand", "hand", "tell", "pass_items", "out")
    name = source.choice(list(NUMBERS) + list(often))
    while name == "on" and steps == 40:
        name = source.choice(often)
    return NUMBERS[name], given_for(source, house, name)


class Walk(unittest.TestCase):
    def check_places(self, house):
        lists = {IN_BIN: house.bins, ON_TRAY: house.trays, WITH_ROUND: house.rounds}
        for kind, lines in lists.items():
            for office, line in enumerate(lines):
                by_books = [item for item in house.posted.values() if item.place == (kind, office, 0)]
                self.assertEqual(sorted(map(id, line)), sorted(map(id, by_books)))
        for item in house.posted.values():
            if item.place[0] == ON_RUN:
                run = house.runs[item.place[1:]]
                self.assertIn(item, run.load)
                self.assertIn(run, house.under_way)
            if item.lost:
                self.assertIn(item.place[0], (IN_BIN, ON_RUN, MISSING))
            if item.place[0] == MISSING:
                self.assertTrue(item.lost)

    def check_trays(self, house):
        for tray, passes in zip(house.trays, house.passes):
            self.assertEqual(passes == 0, tray == [])

    def check_money(self, house):
        self.assertEqual(sum(house.cash), house.came_in - house.went_out)
        for party in range(5):
            self.assertEqual(house.debts[party][party], 0)
            self.assertGreaterEqual(min(house.debts[party]), 0)
        self.assertEqual(house.cash[4], 0)

    def walk(self, seed):
        source = random.Random(seed)
        house = House()
        calls = []
        answered = []
        steps = 0
        for turn in range(400):
            number, given = next_call(source, house, steps)
            steps += number == NUMBERS["on"]
            before = plain(house)
            answer = answer_call(house, number, given)
            calls += [number, *given]
            answered += [len(answer), *answer]
            if answer[0] < 0:
                self.assertEqual(len(answer), 1)
                self.assertEqual(plain(house), before)
            self.check_places(house)
            self.check_trays(house)
            self.check_money(house)
        self.assertEqual(answers(calls), answered)
        return house

    def test_the_books_agree(self):
        ends = {}
        kinds = {}
        for seed in range(12):
            house = self.walk(seed)
            again = House()
            for number, given in house.journal:
                answer_call(again, number, given)
            self.assertEqual(plain(again), plain(house))
            for item in house.posted.values():
                ends[item.place[:2]] = True
            for told in house.messages:
                kinds[told.kind] = True
        # The walks are worth something only if they got everywhere.
        self.assertEqual(sorted(kinds), list(range(12)))
        for end in range(3):
            self.assertIn((ENDED, end), ends)


if __name__ == "__main__":
    unittest.main()
