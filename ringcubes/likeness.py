"""How one drawing becomes another one by a sequence of crossings and names of arcs."""

from ringcubes.ends import into_spots, out_spots, other_end, piece_rows


class Twin:
    """Two drawings of which pieces are laid on one another."""

    def __init__(self, one, other):
        self.near = one.crossings
        self.far = other.crossings
        self.near_into = into_spots(self.near)
        self.near_out = out_spots(self.near)
        self.far_into = into_spots(self.far)
        self.far_out = out_spots(self.far)

    def goals_from(self, start, goal):
        """A dict that leads the crossings of the piece of start on, start to goal; None if it cannot be."""
        goals = {start: goal}
        todo = [start]
        while todo:
            index = todo.pop()
            if self.near[index][0] != self.far[goals[index]][0]:
                return None
            for slot in range(1, 5):
                mate, slot_there = other_end(self.near, self.near_into, self.near_out, index, slot)
                twin, twin_slot = other_end(self.far, self.far_into, self.far_out, goals[index], slot)
                if slot_there != twin_slot:
                    return None
                if mate not in goals:
                    goals[mate] = twin
                    todo.append(mate)
                elif goals[mate] != twin:
                    return None
        return goals

    def goals_of_piece(self, piece, other_pieces):
        """The crossings of a piece led to one of the other pieces, with its index; None if none is alike."""
        for at, rows in enumerate(other_pieces):
            # Of as many crossings: so no two crossings of a piece that hangs together are led to one.
            if len(rows) != len(piece):
                continue
            for goal in rows:
                goals = self.goals_from(piece[0], goal)
                if goals is not None:
                    return at, goals
        return None


def likeness(one, other):
    """A pair (order, table) by which in_order and renamed lead from one to other; None if none does."""
    if len(one.crossings) != len(other.crossings) or one.rings != other.rings:
        return None
    twin = Twin(one, other)
    rest = piece_rows(other.crossings)
    goals = {}
    for piece in piece_rows(one.crossings):
        found = twin.goals_of_piece(piece, rest)
        if found is None:
            return None
        at, more = found
        goals.update(more)
        rest = rest[:at] + rest[at + 1:]
    order = [0 for _ in goals]
    table = {}
    for index in goals:
        order[goals[index]] = index
        for slot in range(1, 5):
            table[one.crossings[index][slot]] = other.crossings[goals[index]][slot]
    return order, table
