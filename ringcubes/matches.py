"""States of one drawing taken for states of another one: other sequences of crossings, other arcs."""


def ones_sign(choice, places):
    """-1 if an odd number of pairs of crossings with choice 1 change their sequence by places, otherwise 1."""
    sign = 1
    passed = []
    for place, bit in zip(places, choice):
        if bit == 1:
            if len([before for before in passed if before > place]) % 2 == 1:
                sign = -sign
            passed.append(place)
    return sign


def ring_goals(cube, choice, goal_cube, goal_choice, names, loops):
    """For each ring of a choice the index of the ring that it becomes, None for a ring of inner arcs.

    Arcs with other names are told by names, arcs of what becomes a ring beside by loops; rings
    beside stay in their sequence. Inner arcs are in none of both.
    """
    rows, _ = cube.rings_with(choice)
    goals = []
    for index, ring in enumerate(rows):
        goal = None if ring else index
        for arc in ring:
            if arc in loops:
                goal = loops[arc]
            elif arc in names:
                goal = goal_cube.ring_of(goal_choice, names[arc])
        goals.append(goal)
    return goals


def marks_moved(marks, goals, many):
    """The marks of so many rings, each told by the ring that has become it."""
    told = [0 for _ in range(many)]
    for mark, goal in zip(marks, goals):
        if goal is not None:
            told[goal] = mark
    return tuple(told)


class Match:
    """Leads states of one cube to states of another one, by crossings and arcs."""

    def __init__(self, cube, goal_cube, names, loops):
        self.cube = cube
        self.goal_cube = goal_cube
        self.names = names
        self.loops = loops
        self.goal_rows = {}

    def state_led(self, state, goal_choice):
        """The state of this choice that a state becomes."""
        choice, marks = state
        key = (choice, goal_choice)
        if key not in self.goal_rows:
            self.goal_rows[key] = ring_goals(self.cube, choice, self.goal_cube, goal_choice, self.names, self.loops)
        return goal_choice, marks_moved(marks, self.goal_rows[key], self.goal_cube.ring_count(goal_choice))


def turned_table(table):
    """The table back, of one that leads each state to just one other one, 1 or -1 times."""
    told = {}
    for state in table:
        for goal in table[state]:
            told[goal] = {state: table[state][goal]}
    return told
