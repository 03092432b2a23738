"""Cubes shrunk by partners: what the papers of moves are made of.

Some states, the lower ones, have partners, the upper ones, a height above; the step of a lower one
has its partner 1 or -1 times and no partner of another one. What is left are the plain states.
"""

from ringcubes.tables import add_times

LOWER = 0
UPPER = 1
PLAIN = 2


class KinkPlan:
    """The partners at the crossing of a kink whose loop is the arc loop."""

    def __init__(self, cube, crossing, loop):
        self.cube = cube
        self.crossing = crossing
        self.loop = loop
        self.sign = cube.drawing.crossings[crossing][0]
        self.ring_bit = (1 - self.sign) // 2

    def part_of(self, state):
        """Whether a state is a lower, an upper or a plain one."""
        choice, marks = state
        if choice[self.crossing] != self.ring_bit:
            return UPPER if self.sign == 1 else LOWER
        if marks[self.cube.ring_of(choice, self.loop)] == -self.sign:
            return PLAIN
        return LOWER if self.sign == 1 else UPPER


class OverlapPlan:
    """The partners at two crossings with a face of two corners between them.

    The small ring within the face comes at the choices bits of the crossings, and goes along inner;
    where third is a crossing, all this holds only at the choice third_bit there.
    """

    def __init__(self, cube, crossings, bits, inner, third, third_bit):
        self.cube = cube
        self.crossings = crossings
        self.bits = bits
        self.inner = inner
        self.third = third
        self.third_bit = third_bit

    def part_of(self, state):
        """Whether a state is a lower, an upper or a plain one."""
        choice, marks = state
        if self.third is not None and choice[self.third] != self.third_bit:
            return PLAIN
        one, other = self.crossings
        pair = (choice[one], choice[other])
        if pair == (0, 0):
            return LOWER
        if pair == (1, 1):
            return UPPER
        if pair != self.bits:
            return PLAIN
        if marks[self.cube.ring_of(choice, self.inner)] == 1:
            return LOWER
        return UPPER


def partner_led(cube, plan, lower):
    """The partner of a lower state, where it is led with the bridge, and where without partners."""
    led = cube.step_from(lower)
    upper = [goal for goal in led if plan.part_of(goal) == UPPER][0]
    sign = led[upper]
    plain = {goal: -sign * led[goal] for goal in led if plan.part_of(goal) == PLAIN}
    return upper, {lower: -sign}, plain


def shrunk(cube, plan):
    """A triple (there, back, bridge): tables from the cube to its plain states, back, and within the cube."""
    bridge = {}
    there = {}
    plain_states = []
    for state in cube.all_states():
        part = plan.part_of(state)
        if part == PLAIN:
            there[state] = {state: 1}
            plain_states.append(state)
        elif part == LOWER:
            upper, lower_told, plain = partner_led(cube, plan, state)
            bridge[upper] = lower_told
            if plain:
                there[upper] = plain
    back = {}
    for state in plain_states:
        total = {state: 1}
        led = cube.step_from(state)
        for goal in led:
            if goal in bridge:
                add_times(total, bridge[goal], led[goal])
        back[state] = total
    return there, back, bridge
