"""Whether numbers that were handed in are within the ranges told for them."""

OFFICE = (0, 3)
PARTY = (0, 4)
TIMES = (0, 40000)


def within(number, bounds):
    """Whether the number is from the first bound to the second one."""
    return bounds[0] <= number <= bounds[1]


def all_within(numbers, ranges):
    """Whether each number is within the range at its place."""
    return all([within(number, bounds) for number, bounds in zip(numbers, ranges)])
