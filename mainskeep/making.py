"""Makings: prices by weights, what weights show, and the cheapest making with weights that show its cost."""

from mainskeep.fractions import fraction, is_less, minus, plus, times
from mainskeep.shares import limit_shares, place_shares
from mainskeep.sheets import Sheet, mend
from mainskeep.walls import walls


def prices(net, weights):
    """The price at each place by the weights."""
    level, rows = weights
    known = place_shares(net)
    found = [level for place in range(net[0])]
    for lost, line, side, weight in rows:
        parts = limit_shares(net, known, lost, line)
        signed = times(weight, (side, 1))
        found = [minus(price, times(signed, part)) for price, part in zip(found, parts)]
    return found


def gained(block, price):
    """The block's width times what it costs less than the price of its place, 0 at least, with a minus ahead."""
    place, width, cost = block
    less = minus((cost, 1), price)
    return times((width, 1), less) if is_less(less, (0, 1)) else (0, 1)


def shown(net, base, blocks, weights):
    """What the weights show of the base and the blocks: no making that fits costs less."""
    found = (0, 1)
    by_place = prices(net, weights)
    for block in blocks:
        found = plus(found, gained(block, by_place[block[0]]))
    for price, part in zip(by_place, base):
        found = minus(found, times(price, (part, 1)))
    for lost, line, side, weight in weights[1]:
        found = minus(found, times(weight, (net[1][line][3], 1)))
    return found


def shown_at_nought(net, base, blocks, weights):
    """What the weights show of the blocks at the price 0: where that is above 0, no making fits."""
    return shown(net, base, [(place, width, 0) for place, width, price in blocks], weights)


def weights_by(sheet, parts, number, price):
    """Weights of the walls, told by a dict of their parts times the scale, that give the block's place the price."""
    place = sheet.blocks[number][0]
    level = (price, 1)
    rows = []
    for at in sorted(parts):
        if parts[at] > 0:
            limit, unit, top, slopes = sheet.walls[at - len(sheet.blocks)]
            rows.append(limit + (fraction(parts[at] * unit, sheet.scale),))
            level = plus(level, fraction(parts[at] * slopes[place], sheet.scale))
    return (level, tuple(rows))


def wall_parts(sheet, row):
    """The parts of a row that free walls have, by their numbers."""
    return {number: part for number, part in zip(sheet.free, row[1:]) if number >= len(sheet.blocks)}


def cost_weights(sheet):
    """The weights that show that nothing costs less than what is told at present."""
    number = min(list(sheet.rows))
    return weights_by(sheet, wall_parts(sheet, sheet.costs), number, sheet.blocks[number][2])


def refusal_weights(sheet, number):
    """The weights that show that no making fits, by the number of a room that stays below 0."""
    parts = wall_parts(sheet, [-part for part in sheet.row_of(number)])
    if number < len(sheet.blocks):
        return weights_by(sheet, parts, number, 1 if sheet.upside_down[number] else -1)
    parts[number] = sheet.scale
    return weights_by(sheet, parts, min(list(sheet.rows)), 0)


def cheapest(net, base, blocks):
    """The cheapest making with its cost and with weights that show it, or weights that show that none fits."""
    # A block without width adds nothing, but lets a sheet be begun where there are no blocks.
    sheet = Sheet(base, blocks or ((0, 0, 0),), walls(net))
    number = mend(sheet)
    if number is not None:
        return ("none", refusal_weights(sheet, number))
    amounts = [fraction(sheet.made(at), sheet.scale) for at in range(len(blocks))]
    return ("made", fraction(sheet.costs[0], sheet.scale), amounts, cost_weights(sheet))
