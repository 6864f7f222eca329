"""Tallies packed into integers, so that very many of them can be put behind each other."""

from enoughpaid.tallies import FREE, MANY, NEVER, SOME, round_of


class Packing:
    """How the tallies of a number of states are packed: into a tuple with an integer for each row of marks.

    The integer has three stretches of one bit for each state: for the states whose mark is free, for those whose
    mark is free or some, and for those whose mark is not never. So the least of two marks has the bits of both.
    """

    def __init__(self, size):
        stretch = (1 << size) - 1
        many = stretch << (MANY * size)
        some = many | (stretch << (SOME * size))
        self.held_size = size
        # What is left of the row at a state between, by the rank of the way there: a greater one takes bits away.
        self.held_limits = (some | stretch, some, many, 0)
        # The same rows stand in very many tallies, so what is known of a row is kept.
        self.held_rows = {}
        self.held_masks = {}

    def packed_row(self, ranks, begin):
        """Return the integer for a row that has these ranks from a place on, and never elsewhere."""
        bits = 0
        for at, rank in enumerate(ranks, start=begin):
            for stretch in range(rank, NEVER):
                bits += 1 << (at + stretch * self.held_size)
        return bits

    def ranks_of(self, row):
        """Return all ranks of a row."""
        if row not in self.held_rows:
            self.held_rows[row] = tuple([self.least_rank(row, 1 << at) for at in range(self.held_size)])
        return self.held_rows[row]

    def least_rank(self, row, places):
        """Return the least rank that a row has at some places, which are bits of the first stretch."""
        for rank in (FREE, SOME, MANY):
            if row & (places << (rank * self.held_size)):
                return rank
        return NEVER

    def least_way(self, tally, starts, ends):
        """Return the least rank from some places to others, which are bits of the first stretch."""
        bits = 0
        for start in starts:
            bits |= tally[start]
        return self.least_rank(bits, ends)

    def masks_of(self, row):
        """Return for each state between what is left of the row there behind this row."""
        if row not in self.held_masks:
            self.held_masks[row] = tuple([self.held_limits[rank] for rank in self.ranks_of(row)])
        return self.held_masks[row]

    def row_behind(self, row, later):
        """Return the row of a tally with the rows of a later one put behind it."""
        bits = 0
        for mask, onwards in zip(self.masks_of(row), later):
            bits |= mask & onwards
        return bits

    def behind(self, earlier, later):
        """Return a packed tally with a later one put behind it."""
        return tuple([self.row_behind(row, later) for row in earlier])

    def is_settled(self, tally):
        """Tell whether a packed tally put behind itself is the same."""
        for row in tally:
            if self.row_behind(row, tally) != row:
                return False
        return True

    def repeated(self, tally):
        """Return a settled packed tally repeated."""
        turned = [row & self.held_limits[round_of(self.ranks_of(row)[at])] for at, row in enumerate(tally)]
        return self.behind(tally, turned)
