"""Runs ahead, the earliest and the latest by them, and the calls way and latest."""

from postalhouse.ranges import OFFICE, TIMES, all_within

# Four offices: no way without a detour has more runs than this.
ROUNDS = 3


def is_ahead(house, run):
    """Whether the run still can go."""
    return not run.cancelled and not run.gone and run.goes >= house.now


def runs_ahead(house):
    """The runs that still can go, by trips as they were told, then days."""
    return [run for run in house.runs.values() if is_ahead(house, run)]


def earliest(house, office, time):
    """For who's at the office at that time: for each office within reach, when one is there and by which first run."""
    ahead = runs_ahead(house)
    known = {office: (time, None)}
    for ways_round in range(ROUNDS):
        known = after_round(ahead, known)
    return known


def after_round(ahead, before):
    """What is known after one more run on top of what was known before."""
    known = dict(before)
    for run in ahead:
        start = before.get(run.trip.origin)
        if start is None or start[0] > run.goes:
            continue
        reached = known.get(run.trip.to)
        if reached is None or run.comes < reached[0]:
            first = run if start[1] is None else start[1]
            known[run.trip.to] = (run.comes, first)
    return known


def latest(house, office, time):
    """For who's to be at the office by that time: for each office the latest time to be there, if one can."""
    ahead = runs_ahead(house)
    known = {office: time}
    for ways_round in range(ROUNDS):
        known = before_round(ahead, known)
    return known


def before_round(ahead, behind):
    """What is known with one more run ahead of what was known behind it."""
    known = dict(behind)
    for run in ahead:
        end = behind.get(run.trip.to)
        if end is None or run.comes > end:
            continue
        if run.goes > known.get(run.trip.origin, -1):
            known[run.trip.origin] = run.goes
    return known


def answer_way(house, given):
    """way: origin, t, to."""
    if not all_within(given, (OFFICE, TIMES, OFFICE)):
        return [-1]
    reached = earliest(house, given[0], given[1]).get(given[2])
    if reached is None:
        return [-8]
    first = reached[1]
    if first is None:
        return [reached[0], -1, -1]
    return [reached[0], first.trip.number, first.day]


def answer_latest(house, given):
    """latest: origin, to, t."""
    if not all_within(given, (OFFICE, OFFICE, TIMES)):
        return [-1]
    time = latest(house, given[1], given[2]).get(given[0])
    return [-8] if time is None else [time]
