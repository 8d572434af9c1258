"""Long mixed sessions from a fixed seed: the books agree with one another behind every call."""

import random
import unittest

from postalhouse.house import answer_call, answers
from postalhouse.state import House
from tests.helper import HUGE, NUMBERS, plain, split, split_answers

IN_BIN, ON_RUN, ON_TRAY, WITH_ROUND, AT_COUNTER, ENDED, MISSING = range(7)


def near(source, low, high):
    """Mostly a number of the range, now and then one at its edge or beyond."""
    if source.random() < 0.03:
        return source.choice((low, high, low - 1, high + 1, HUGE, -HUGE))
    return source.randint(low, high)


def some_item(source, house):
    if house.posted and source.random() < 0.97:
        return source.choice(list(house.posted))
    return near(source, 1, 999)


def busy_office(source, house, passes):
    """Mostly an office that has something, and whose tray has gone through one of these numbers of passes."""
    busy = [office for office in range(4) if house.passes[office] in passes]
    busy = [office for office in busy if house.trays[office] or house.bins[office]]
    if busy and source.random() < 0.8:
        return source.choice(busy)
    return near(source, 0, 3)


def next_in_round(source, house):
    heads = [line[0].number for line in house.rounds if line]
    if heads and source.random() < 0.8:
        return source.choice(heads)
    return some_item(source, house)


def given_for(source, house, name):
    office = near(source, 0, 3)
    if name == "trip":
        to = (office + source.randint(1, 3)) % 4
        return [near(source, 1, 99), office, to, near(source, 0, 1439), near(source, 1, 900), near(source, 1, 3)]
    if name == "cancel":
        return [source.choice(list(house.trips) or [5]), near(source, 0, 20)]
    if name == "post":
        to = (office + source.randint(1, 3)) % 4
        most = (8, 8, 3, 100000, 100000, 1000)
        return [office, near(source, 1, 999), to] + [near(source, 0, top) for top in most]
    if name == "on":
        return [house.now + near(source, 0, 1600)]
    if name == "lose":
        return [some_item(source, house), near(source, 0, 1)]
    if name == "out":
        return [busy_office(source, house, [2])]
    if name == "check":
        return [office]
    if name == "found":
        lost = [item.number for item in house.posted.values() if item.lost]
        return [office, source.choice(lost or [3])]
    if name == "pass_items":
        return [busy_office(source, house, [0, 1]), near(source, 0, 9)]
    if name == "hand":
        return [next_in_round(source, house), near(source, 0, 2)]
    if name == "tell":
        return [near(source, 0, max(len(house.messages) - 1, 0)), office]
    if name == "payout":
        return [near(source, 0, max(len(house.orders) - 1, 0))]
    if name == "claim":
        return [last_missing(source, house)]
    if NUMBERS[name] > NUMBERS["giveback"]:
        return asked_for(source, house, name)
    return [some_item(source, house)]


def last_missing(source, house):
    lost = [loss.item for loss in house.losses]
    if lost and source.random() < 0.8:
        return lost[-1]
    return some_item(source, house)


def asked_for(source, house, name):
    office = near(source, 0, 3)
    if name == "item":
        return [some_item(source, house)]
    if name in ("office", "knows"):
        return [office]
    if name == "said":
        return [office, some_item(source, house)]
    if name == "way":
        return [office, near(source, 0, 40000), near(source, 0, 3)]
    if name == "latest":
        return [office, near(source, 0, 3), near(source, 0, 40000)]
    if name == "account":
        return [near(source, 0, 4)]
    if name == "back":
        return [near(source, 0, len(house.journal))]
    return []


def next_call(source, house, steps):
    """Any call; on only while fewer than 40 steps were taken."""
    often = ("on", "pass_items", "out", "hand", "hand", "tell", "pass_items", "out")
    rest = ("post", "post", "check", "found", "claim", "giveback")
    name = source.choice(list(NUMBERS) + 3 * list(often) + list(rest))
    while name == "on" and steps == 40:
        name = source.choice(often)
    return NUMBERS[name], given_for(source, house, name)


class Walk(unittest.TestCase):
    def check_places(self, house):
        lists = {IN_BIN: house.bins, ON_TRAY: house.trays, WITH_ROUND: house.rounds}
        for kind, lines in lists.items():
            for office, line in enumerate(lines):
                by_books = [item for item in house.posted.values() if item.place == (kind, office, 0)]
                self.assertEqual(sorted(map(id, line)), sorted(map(id, by_books)))
        for item in house.posted.values():
            if item.place[0] == ON_RUN:
                run = house.runs[item.place[1:]]
                self.assertIn(item, run.load)
                self.assertIn(run, house.under_way)
            if item.lost:
                self.assertIn(item.place[0], (IN_BIN, ON_RUN, MISSING))
            if item.place[0] == MISSING:
                self.assertTrue(item.lost)

    def check_trays(self, house):
        for tray, passes in zip(house.trays, house.passes):
            self.assertEqual(passes == 0, tray == [])

    def check_money(self, house):
        self.assertEqual(sum(house.cash), house.came_in - house.went_out)
        for party in range(5):
            self.assertEqual(house.debts[party][party], 0)
            self.assertGreaterEqual(min(house.debts[party]), 0)

    def check_asked(self, house):
        """What is asked of one thing agrees with what is asked of another."""
        def ask(name, *given):
            return answer_call(house, NUMBERS[name], list(given))

        seen = {}
        for office in range(4):
            answer = ask("office", office)
            rows = split_answers(answer[1:])
            self.assertEqual(len(rows), 4)
            for where, numbers in zip((IN_BIN, ON_TRAY, WITH_ROUND, AT_COUNTER), rows):
                for number in numbers:
                    self.assertEqual(ask("item", number)[:4], [0, where, office, 0])
                    seen[number] = True
            known = ask("knows", office)
            said = [ask("said", office, number)[0] for number in house.posted]
            self.assertEqual(sum(said), known[0])
            self.assertEqual(known[1], min(20, known[0]))
        for number in house.posted:
            self.assertEqual(ask("item", number)[1] in (ON_RUN, ENDED, MISSING), number not in seen)
        owed = [ask("account", party) for party in range(5)]
        self.assertEqual(sum(told[2] for told in owed), sum(told[3] for told in owed))
        counts = ask("counts")
        self.assertEqual(sum(told[1] for told in owed), counts[4] - counts[5])
        now = ask("back", counts[3])
        self.assertEqual(now[:3] + now[5:7], counts[:3] + counts[4:])
        self.assertEqual(now[3:5], [ask("losses")[0], ask("orders")[0]])
        self.assertEqual(now[7:], [5] + [told[1] for told in owed])

    def walk(self, seed):
        source = random.Random(seed)
        house = House()
        calls = []
        answered = []
        steps = 0
        for turn in range(400):
            number, given = next_call(source, house, steps)
            if turn < 4:
                # A ring of trips, so that items get somewhere and back.
                number = NUMBERS["trip"]
                given = [turn + 1, turn, (turn + 1) % 4, source.randint(0, 1439), source.randint(1, 900), 3]
            steps += number == NUMBERS["on"]
            before = plain(house)
            answer = answer_call(house, number, given)
            calls += [number, *given]
            answered += [len(answer), *answer]
            if answer[0] < 0:
                self.assertEqual(len(answer), 1)
            if answer[0] < 0 or number > NUMBERS["settle"]:
                self.assertEqual(plain(house), before)
            self.check_places(house)
            self.check_trays(house)
            self.check_money(house)
            if turn % 10 == 0:
                self.check_asked(house)
        self.assertEqual(answers(calls), answered)
        return house, calls, split_answers(answered)

    def check_journal(self, house, calls, answered):
        """Doing the journal's calls anew comes to the same, and back tells each step of it."""
        again = House()
        done = 0
        for call, answer in zip(split(calls), answered):
            if call[0] > NUMBERS["settle"] or answer[0] < 0:
                continue
            self.assertEqual(answer_call(again, *call), answer)
            done += 1
            told = answer_call(again, NUMBERS["back"], [done])
            self.assertEqual(answer_call(house, NUMBERS["back"], [done]), told)
            self.assertEqual(told[8:], again.cash)
        self.assertEqual(plain(again), plain(house))

    def test_the_books_agree(self):
        ends = {}
        kinds = {}
        refused = {}
        for seed in range(8):
            house, calls, answered = self.walk(seed)
            self.check_journal(house, calls, answered)
            for item in house.posted.values():
                ends[item.place[:2]] = True
            for told in house.messages:
                kinds[told.kind] = True
            for call, answer in zip(split(calls), answered):
                refused[call[0], answer[0] < 0] = True
        # The walks are worth something only if they got everywhere.
        self.assertEqual(sorted(kinds), list(range(12)))
        for end in range(3):
            self.assertIn((ENDED, end), ends)
        never = [NUMBERS[name] for name in ("settle", "losses", "orders", "runs", "counts")]
        for number in NUMBERS.values():
            self.assertIn((number, False), refused)
        for number in never:
            self.assertNotIn((number, True), refused)


if __name__ == "__main__":
    unittest.main()
