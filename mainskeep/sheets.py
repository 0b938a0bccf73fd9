"""Sheets: rows of whole numbers, turned step by step until a making is the cheapest one, or none is there."""


class Sheet:
    """How much is made of each block, and how that hangs on what is free.

    Blocks have their numbers, walls theirs behind those of the blocks. The room of a block is what is made of it
    or, where it stands upside down, what is left of its width; the room of a wall is its unit times what its
    limit leaves. No room may be below 0. The free ones are those, as many as blocks but one, on whose rooms all
    others hang by the balance; at present theirs are 0.

    A row is a list: what a room is at present, then what it grows by for one unit of each free room; all times the
    scale. Each block that isn't free has a row by its number; a wall's row is made when it is asked for. The costs
    are a row likewise, and growing rooms never make them less: so nothing costs less than what is told at present
    as long as the free rooms are 0 at least.
    """

    def __init__(self, base, blocks, walls):
        self.base = base
        self.blocks = blocks
        self.walls = walls
        self.scale = 1
        price = blocks[0][2]
        # The first block makes what the others leave to balance, even where that is more than it can, or below 0.
        self.upside_down = [block[2] < price for block in blocks]
        self.free = list(range(1, len(blocks)))
        left = -sum(base) - sum([block[1] for block in blocks if block[2] < price])
        self.rows = {0: [left] + [1 if self.upside_down[number] else -1 for number in self.free]}
        cost = left * price + sum([block[1] * block[2] for block in blocks if block[2] < price])
        self.costs = [cost] + [abs(blocks[number][2] - price) for number in self.free]

    def made(self, number):
        """What is made of the block, times the scale."""
        room = self.rows[number][0] if number in self.rows else 0
        return self.blocks[number][1] * self.scale - room if self.upside_down[number] else room

    def put_in(self):
        """What is put in at each place, times the scale."""
        found = [part * self.scale for part in self.base]
        for number, block in enumerate(self.blocks):
            found[block[0]] += self.made(number)
        return found

    def turn_over(self, number):
        """Reckons the block's room from its other end."""
        row = self.rows[number]
        self.rows[number] = [self.blocks[number][1] * self.scale - row[0]] + [-part for part in row[1:]]
        self.upside_down[number] = not self.upside_down[number]

    def wrong_block(self):
        """The first block of which less than nothing is made or more than its width, its room below 0; or None."""
        for number in range(len(self.blocks)):
            if number in self.rows:
                if self.rows[number][0] > self.blocks[number][1] * self.scale:
                    self.turn_over(number)
                if self.rows[number][0] < 0:
                    return number
        return None

    def wall_room(self, wall, puts):
        """The room of a wall, times the scale, for what is put in, times the scale."""
        limit, unit, top, slopes = wall
        return top * self.scale - sum([slope * put for slope, put in zip(slopes, puts)])

    def wrong_wall(self):
        """The first wall whose limit is broken, or None."""
        puts = self.put_in()
        for at, wall in enumerate(self.walls):
            if self.wall_room(wall, puts) < 0:
                return len(self.blocks) + at
        return None

    def wrong(self):
        """The least number of a block or a wall whose room is below 0, or None."""
        number = self.wrong_block()
        return self.wrong_wall() if number is None else number

    def wall_row(self, wall):
        """The row of a wall."""
        grown = [0 for number in self.free]
        for number, block in enumerate(self.blocks):
            slope = wall[3][block[0]] if self.upside_down[number] else -wall[3][block[0]]
            if number in self.rows:
                grown = [part + slope * other for part, other in zip(grown, self.rows[number][1:])]
            else:
                grown[self.free.index(number)] += slope * self.scale
        return [self.wall_room(wall, self.put_in())] + grown

    def row_of(self, number):
        """The row of a block that isn't free, or of a wall."""
        return self.rows[number] if number in self.rows else self.wall_row(self.walls[number - len(self.blocks)])

    def is_ahead(self, row, at, other):
        """Whether the free one at a place of the row costs less for what it mends than another one does.

        Of two that are alike the one of the lesser number goes ahead: so no sheet comes again, and it ends.
        """
        here = (self.costs[at] * row[other], self.free[at - 1])
        there = (self.costs[other] * row[at], self.free[other - 1])
        return here < there

    def mending(self, row):
        """The place in the row of the free one that is to grow, or None where no growing mends the row."""
        found = None
        for at in range(1, len(row)):
            if row[at] > 0 and (found is None or self.is_ahead(row, at, found)):
                found = at
        return found

    def turned(self, kept, row, at):
        """A row when, by another row, the free one at the place hangs on that row's own room instead."""
        # The parts are minors of the first sheet's numbers, so that nothing is left over when divided by the scale.
        found = [(row[at] * part - kept[at] * other) // self.scale for part, other in zip(kept, row)]
        found[at] = kept[at]
        return found

    def turn(self, number, row, at):
        """Makes free what has that number and row, in the stead of the free one at the place."""
        coming = self.free[at - 1]
        self.costs = self.turned(self.costs, row, at)
        rows = {other: self.turned(self.rows[other], row, at) for other in self.rows if other != number}
        if coming < len(self.blocks):
            rows[coming] = [self.scale if place == at else -part for place, part in enumerate(row)]
        self.rows = rows
        self.free[at - 1] = number
        self.scale = row[at]


def mend(sheet):
    """Turns the sheet until no room is below 0, then tells None; or the number of one that can't be mended."""
    number = sheet.wrong()
    while number is not None:
        row = sheet.row_of(number)
        at = sheet.mending(row)
        if at is None:
            return number
        sheet.turn(number, row, at)
        number = sheet.wrong()
    return None
