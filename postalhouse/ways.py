"""Runs ahead, and the earliest that one can be at an office by them."""

# Four offices: no way without a detour has more runs than this.
ROUNDS = 3


def is_ahead(house, run):
    """Whether the run still can go."""
    return not run.cancelled and not run.gone and run.goes >= house.now


def runs_ahead(house):
    """The runs that still can go, by trips as they were told, then days."""
    return [run for run in house.runs.values() if is_ahead(house, run)]


def earliest(house, office, time):
    """For who's at the office at that time: for each office within reach, when one is there and by which first run."""
    ahead = runs_ahead(house)
    known = {office: (time, None)}
    for ways_round in range(ROUNDS):
        known = after_round(ahead, known)
    return known


def after_round(ahead, before):
    """What is known after one more run on top of what was known before."""
    known = dict(before)
    for run in ahead:
        start = before.get(run.trip.origin)
        if start is None or start[0] > run.goes:
            continue
        reached = known.get(run.trip.to)
        if reached is None or run.comes < reached[0]:
            first = run if start[1] is None else start[1]
            known[run.trip.to] = (run.comes, first)
    return known
