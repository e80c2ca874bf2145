"""What rows do, found plainly: by where they lead three dots in two drawings with great numbers."""

from tests.sketches import THREE_DOTS, any_rows, reflected


class Plainly:
    """Ends of rows; rows that always do the same have like ones, and others unlike ones but by great chance."""

    def __init__(self, text, seed=7):
        self.drawings = [any_rows(text, seed + more, 900, 70) for more in range(2)]
        self.ends = {(): (THREE_DOTS, THREE_DOTS)}

    def end(self, row):
        """Where a row, a tuple of names, leads."""
        if row not in self.ends:
            before = self.end(row[:-1])
            self.ends[row] = tuple(tuple(reflected(rows[row[-1]], dot) for dot in dots)
                                   for rows, dots in zip(self.drawings, before))
        return self.ends[row]

    def does_nothing(self, row):
        return self.end(row) == self.end(())


def rows_up_to(names, most):
    """All rows of none to so many names, by how many they have, then by their texts."""
    found, last = [()], [()]
    for _ in range(most):
        last = [row + (name,) for row in last for name in names]
        found += sorted(last, key=" ".join)
    return found


def parts_of(row):
    """The neighbouring steps, at least one and fewer than all."""
    return [row[start:stop] for start in range(len(row)) for stop in range(start + 1, len(row) + 1)
            if stop - start < len(row)]
