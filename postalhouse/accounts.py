"""The calls settle and account, and debts that are taken back."""

from postalhouse.ranges import PARTY, within
from postalhouse.rows import row
from postalhouse.state import PARTIES


def take_debt_back(house, debtor, creditor, amount):
    """The debtor owes the creditor so much less; what isn't there any more is owed the other way."""
    there = min(amount, house.debts[debtor][creditor])
    house.debts[debtor][creditor] -= there
    house.debts[creditor][debtor] += amount - there


def owed_to(house, party):
    """All that the others owe the party."""
    return sum([debts[party] for debts in house.debts])


def owed_by(house, party):
    """All that the party owes the others."""
    return sum(house.debts[party])


def settle(house):
    """settle: all debts are put to cash."""
    nets = [owed_to(house, party) - owed_by(house, party) for party in range(PARTIES)]
    for party, net in enumerate(nets):
        house.cash[party] += net
        house.debts[party] = [0] * PARTIES
    return [0] + row(nets)


def answer_account(house, given):
    """account: party."""
    party = given[0]
    if not within(party, PARTY):
        return [-1]
    return [0, house.cash[party], owed_to(house, party), owed_by(house, party)]
