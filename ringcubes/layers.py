"""What the step leaves of a lot of states, by height and weight."""

from ringcubes.kinds import ascending
from ringcubes.spans import spanned


def numbered_layers(cube, chosen):
    """A dict from pairs (height, weight) to dicts that number the states chosen there."""
    layers = {}
    for state in chosen:
        spot = cube.spot_of(state)
        if spot not in layers:
            layers[spot] = {}
        layers[spot][state] = len(layers[spot])
    return layers


def layer_rows(cube, numbers, skipped, goals):
    """The rows of the step from the states numbered, but those of skipped numbers, to the goals."""
    rows = []
    for state in numbers:
        if numbers[state] not in skipped:
            led = cube.step_from(state)
            rows.append({goals[goal]: led[goal] for goal in led if goal in goals})
    return rows


def step_ranks(prime, cube, chosen):
    """A dict from pairs (height, weight) to triples (many, rank, twists).

    Told of the step from the states chosen to such: how many there are, how many rows are
    independent, and what twists a height above. The prime 0 stands for whole numbers.
    """
    layers = numbered_layers(cube, chosen)
    skipped = {}
    told = {}
    for spot in sorted(layers):
        height, weight = spot
        rows = layer_rows(cube, layers[spot], skipped.get(spot, {}), layers.get((height + 1, weight), {}))
        columns, rank, twists = spanned(prime, rows)
        # A state in whose column a row was kept is what the step makes and others together: its own row adds nothing.
        skipped[(height + 1, weight)] = {column: True for column in columns}
        told[spot] = (len(layers[spot]), rank, twists)
    return told


def left_at(told, spot):
    """How many states are left at a pair (height, weight) of step_ranks."""
    height, weight = spot
    many, rank, _ = told[spot]
    _, led_here, _ = told.get((height - 1, weight), (0, 0, ()))
    return many - rank - led_here


def rooms_left(prime, cube, chosen, more):
    """The rooms that the states chosen leave, each counted with more weight."""
    told = step_ranks(prime, cube, chosen)
    found = {}
    for spot in told:
        left = left_at(told, spot)
        if left > 0:
            found[(spot[0], spot[1] + more)] = left
    return ascending(found)


def whole_left(cube, chosen, more):
    """The pairs (free, twists) that the states chosen leave, each counted with more weight."""
    told = step_ranks(0, cube, chosen)
    found = {}
    for spot in told:
        height, weight = spot
        free = left_at(told, spot)
        _, _, twists = told.get((height - 1, weight), (0, 0, ()))
        if free > 0 or twists:
            found[(height, weight + more)] = (free, twists)
    return ascending(found)
