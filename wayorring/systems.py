"""Systems of differences, with what follows from them."""


class System:
    """Differences between the ground and the unknowns 1 to many.

    The table has at [u][v] the least c such that u minus v is at most c, with a chain that shows it, or None if
    there is none. It is never modified, only replaced, so that twins share it.
    """

    def __init__(self, many):
        self.many = many
        self.differences = []
        self._table = [[(0, ()) if v == u else None for v in range(many + 1)] for u in range(many + 1)]

    def tie(self, difference):
        """Takes one more difference. None if all can still be kept, otherwise a ring."""
        u, v, c = difference
        number = len(self.differences)
        self.differences.append(difference)
        back = self._table[v][u]
        if back is not None and c + back[0] < 0:
            return (number, *back[1])
        here = self._table[u][v]
        if here is None or c < here[0]:
            self._bring_in(u, v, (c, (number,)))
        return None

    def bound(self, u, v):
        """The least c such that u minus v is at most c whenever all are kept, or None if there is none."""
        known = self._table[u][v]
        return None if known is None else known[0]

    def floors(self):
        """A floor for each unknown that shows its least value, or None if some unknown has no floor."""
        known = self._table[0][1:]
        return None if None in known else tuple([chain for c, chain in known])

    def least_values(self):
        """The list of the least values, or None if some unknown has no floor."""
        known = self._table[0][1:]
        return None if None in known else [-c for c, chain in known]

    def twin(self):
        """A copy; later changes of one have no effect on the other."""
        other = System(self.many)
        other.differences = list(self.differences)
        other._table = self._table
        return other

    def _bring_in(self, u, v, step):
        """Shortens all that becomes shorter by a step from u to v.

        Nothing that leads to u or away from v becomes shorter, since there is no ring; so one look is enough.
        """
        behind = self._table[v]
        self._table = [_row_with_step(known, known[u], step, behind) for known in self._table]


def _row_with_step(known, before, step, behind):
    """A row of the table once a step is brought in: before leads to it, behind is the row where it ends."""
    if before is None:
        return known
    through = _joined(before, step)
    return [_shorter(old, through, rest) for old, rest in zip(known, behind)]


def _joined(first, second):
    return first[0] + second[0], first[1] + second[1]


def _shorter(old, through, rest):
    """What is known already, or the way through the new step where that is shorter."""
    if rest is None or (old is not None and old[0] <= through[0] + rest[0]):
        return old
    return _joined(through, rest)
