"""How rows are answered."""


def row(numbers):
    """A row: how many numbers it has, and they."""
    return [len(numbers)] + numbers


def row_of(records):
    """A row of records, each of them a list of numbers, one behind another."""
    numbers = []
    for record in records:
        numbers.extend(record)
    return row(numbers)
