"""Breaking: the fewest steps of channels after which a night is oversold."""

from keptnights.errors import Refused
from keptnights.standing import is_oversold, sold_total


def gain_steps(line, night):
    """Pairs (arrivals, sales more) of a channel at a night, each with more sales than all before."""
    found = []
    most = -1
    for arrivals, table in enumerate(line.told[line.has:]):
        more = max(0, table[night] - line.sales[night])
        if more > most:
            found.append((arrivals, more))
            most = more
    return tuple(found)


def with_gains(ways, steps, lacking):
    """The ways (arrivals, steps of each channel), by sales up to those lacking, with a channel more."""
    found = {}
    for sales in ways:
        arrivals, taken = ways[sales]
        for step in steps:
            many = min(lacking, sales + step[1])
            if many not in found or arrivals + step[0] < found[many][0]:
                found[many] = (arrivals + step[0], taken + (step,))
    return found


def fewest_arrivals(wire, night, lacking):
    """For each channel the pair of gain_steps with which so many can be sold, None if they cannot."""
    ways = {0: (0, ())}
    for name in wire.names:
        ways = with_gains(ways, gain_steps(wire.line(name), night), lacking)
    return ways[lacking][1] if lacking in ways else None


def lacking_at(wire, night):
    """How many sales more it takes until a night is oversold."""
    return wire.rooms[night] + 1 - sold_total(wire)[night]


def breaking_steps_at(wire, night):
    """The fewest steps of channels after which a night is oversold, None if it never is."""
    lacking = lacking_at(wire, night)
    if lacking <= 0:
        return ()
    taken = fewest_arrivals(wire, night, lacking)
    if taken is None:
        return None
    steps = []
    for name, (arrivals, more) in zip(wire.names, taken):
        many = min(more, lacking)
        lacking = lacking - many
        steps.extend([("arrive", name)] * arrivals)
        steps.extend([("sell", name, (night, night + 1))] * many)
    return tuple(steps)


def breaking_steps(wire):
    """The fewest steps of channels after which some night is oversold, None if none ever is."""
    best = None
    for night in range(len(wire.rooms)):
        # Each sale that lacks is a step, so a night that lacks as many cannot be better.
        if best is None or lacking_at(wire, night) < len(best):
            steps = breaking_steps_at(wire, night)
            if steps is not None and (best is None or len(steps) < len(best)):
                best = steps
    return best


def do_step(wire, step):
    """Do a step of a channel on a wire."""
    if step[0] == "arrive":
        wire.arrive(step[1])
    else:
        wire.sell(step[1], step[2])


def breaks(wire, steps):
    """Do steps on a wire; whether none is refused and a night is oversold then."""
    for step in steps:
        try:
            do_step(wire, step)
        except Refused:
            return False
    return is_oversold(wire)
