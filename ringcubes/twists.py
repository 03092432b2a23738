"""Two strands that cross one another again and again."""

from ringcubes.braids import braid_rows
from ringcubes.errors import BadNumber
from ringcubes.kinds import is_between
from ringcubes.patches import Patch

MOST_TWISTS = 20


def twist_row(many):
    """The patch of two strands that go up and cross as often as many tells, with its sign."""
    if not is_between(many, -MOST_TWISTS, MOST_TWISTS):
        raise BadNumber("many")
    letter = 1 if many > 0 else -1
    rows, (left, right) = braid_rows(2, [letter for _ in range(abs(many))])
    return Patch(rows, [(0, 1), (1, 1), (right, -1), (left, -1)], 0)
