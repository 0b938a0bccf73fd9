"""Houses: a net with works, perhaps a store, and the wants of some hours."""

from mainskeep.kinds import is_row, is_within
from mainskeep.nets import is_net


def is_piece(thing):
    """Whether any thing is a piece of a work."""
    return is_row(thing, 2, 2) and is_within(thing[0], 1, 20) and is_within(thing[1], 0, 99)


def are_pieces(thing):
    """Whether any thing is the pieces of a work."""
    if not is_row(thing, 1, 2) or not all([is_piece(piece) for piece in thing]):
        return False
    return thing[0][1] <= thing[-1][1]


def is_work(thing, many):
    """Whether any thing is a work at one of so many places."""
    if not is_row(thing, 8, 8):
        return False
    place, least, keep, pieces, start, stay, rest, was = thing
    if not is_within(place, 0, many - 1) or not is_within(least, 0, 20) or not is_within(keep, 0, 99):
        return False
    if not are_pieces(pieces) or not is_within(start, 0, 99):
        return False
    return is_within(stay, 1, 2) and is_within(rest, 1, 2) and isinstance(was, bool)


def is_store(thing, many):
    """Whether any thing is a store at one of so many places, or None."""
    if thing is None:
        return True
    if not is_row(thing, 5, 5):
        return False
    place, top, level, taken, given = thing
    if not is_within(place, 0, many - 1) or not is_within(top, 1, 2) or not is_within(level, 0, top):
        return False
    return is_within(taken, 1, 20) and is_within(given, 0, taken)


def is_want(thing, many):
    """Whether any thing is a want at one of so many places."""
    if not is_row(thing, 3, 3):
        return False
    place, size, worth = thing
    return is_within(place, 0, many - 1) and is_within(size, 0, 30) and is_within(worth, 0, 100)


def are_wants(thing, many):
    """Whether any thing is the wants of an hour, at so many places."""
    return is_row(thing, 0, 3) and all([is_want(want, many) for want in thing])


def is_house(thing):
    """Whether any thing is a house."""
    if not is_row(thing, 4, 4):
        return False
    net, works, store, hours = thing
    if not is_net(net) or not is_row(works, 0, 3) or not is_row(hours, 1, 3):
        return False
    many = net[0]
    if not all([is_work(work, many) for work in works]) or not is_store(store, many):
        return False
    return all([are_wants(wants, many) for wants in hours])
