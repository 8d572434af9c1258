"""The journal and the calls that read it: back and counts."""

from postalhouse.ranges import within
from postalhouse.rows import row
from postalhouse.state import House


def write_down(house):
    """A call was done: the journal has one call more."""
    house.journal.append(standing(house))


def standing(house):
    """What back tells of a house."""
    told = [house.now, len(house.posted), len(house.messages), len(house.losses), len(house.orders)]
    return told + [house.came_in, house.went_out] + row(house.cash)


def look_back(house, given):
    """back: n."""
    if not within(given[0], (0, len(house.journal))):
        return [-1]
    if given[0] == 0:
        return standing(House())
    return list(house.journal[given[0] - 1])


def answer_counts(house):
    """counts."""
    told = [house.now, len(house.posted), len(house.messages), len(house.journal)]
    return told + [house.came_in, house.went_out]
