"""What several tests share: drawn inputs, the same in each run, and what runs, reckoned without the program."""

import copy
import fractions as reference
import itertools
import math

LONG = 10 ** 40 - 1

# Things of all kinds that are never a number, a row or a truth about anything asked for.
OTHER_THINGS = (None, True, False, 0, 1, -1, 2, 7, LONG, -LONG, "", "0", "net", "(1, ())", [], [1, 2], [None] * 10000,
                (), (None,), ((),), (((((((((),),),),),),),),), [[[[[[[[[[]]]]]]]]]], ("a", ["b", (None, True)]))


def ratio(top, bottom=1):
    return reference.Fraction(top, bottom).as_integer_ratio()


def worth(u):
    return reference.Fraction(*u)


class Numbers:
    """The same row of numbers in each run, so that a failure comes again."""

    def __init__(self, seed):
        self.seed = seed

    def below(self, bound):
        found = 0
        for _ in range(5):
            self.seed = (self.seed * 6364136223846793005 + 1442695040888963407) % 2 ** 64
            found = found * 2 ** 32 + (self.seed >> 32)
        return found % bound

    def within(self, low, high):
        return low + self.below(high - low + 1)

    def one_of(self, things):
        return things[self.below(len(things))]

    def fraction(self, bound):
        return ratio(self.below(2 * bound + 1) - bound, self.below(bound) + 1)

    def fractions(self, many, bound):
        return [self.fraction(bound) for _ in range(many)]

    def table(self, many, bound):
        return [self.fractions(many, bound) for _ in range(many)]

    def line(self, many, mosts):
        one = self.below(many)
        other = (one + 1 + self.below(many - 1)) % many
        return (one, other, self.within(1, 9), self.one_of(mosts))

    def net(self, many, lines, mosts=range(100)):
        """A net of so many places and lines: a tree of lines first, then all of them in another order."""
        found = []
        for place in range(1, many):
            ends = [place, self.below(place)]
            if self.below(2):
                ends.reverse()
            found.append((*ends, self.within(1, 9), self.one_of(mosts)))
        while len(found) < lines:
            found.append(self.line(many, mosts))
        return (many, tuple(self.mixed(found)))

    def any_net(self, mosts=range(100)):
        many = self.within(1, 4)
        return self.net(many, 0 if many == 1 else self.within(many - 1, 6), mosts)

    def mixed(self, things):
        left, found = list(things), []
        while left:
            found.append(left.pop(self.below(len(left))))
        return found

    def puts(self, many, bound):
        """Puts that balance."""
        found = self.fractions(many - 1, bound)
        return self.mixed(found + [(-sum(map(worth, found))).as_integer_ratio()])


def group_of(place, lines):
    """All places to which one comes from a place along lines."""
    found, grown = {place}, True
    while grown:
        more = {line[1 - end] for line in lines for end in (0, 1) if line[end] in found}
        grown = not more <= found
        found |= more
    return found


def is_joined(many, lines):
    return group_of(0, lines) == set(range(many))


def losable_lines(net):
    return [number for number in range(len(net[1])) if is_joined(net[0], net[1][:number] + net[1][number + 1:])]


def running(net, puts):
    """The streams as the mean of what runs along each tree of lines, weighed by the product of its stiffnesses."""
    many, lines = net
    total, found = 0, [reference.Fraction(0)] * len(lines)
    for tree in itertools.combinations(range(len(lines)), many - 1):
        if is_joined(many, [lines[number] for number in tree]):
            weight = math.prod(lines[number][2] for number in tree)
            total += weight
            for number in tree:
                rest = [lines[other] for other in tree if other != number]
                found[number] += weight * sum(puts[place] for place in group_of(lines[number][0], rest))
    return [stream / total for stream in found]


def running_without(net, puts, lost):
    """The streams with a line lost, or none (-1), 0 for the lost one."""
    if lost == -1:
        return running(net, puts)
    found = running((net[0], net[1][:lost] + net[1][lost + 1:]), puts)
    return found[:lost] + [reference.Fraction(0)] + found[lost:]


def all_limits(net):
    lines = range(len(net[1]))
    return sorted((lost, line, side) for lost in [-1] + losable_lines(net) for line in lines if line != lost
                  for side in (-1, 1))


def beyond_by_limit(net, puts):
    """For each limit how far its stream is beyond the most; below 0, how far it stays under it."""
    streams = {lost: running_without(net, puts, lost) for lost in [-1] + losable_lines(net)}
    return {limit: limit[2] * streams[limit[0]][limit[1]] - net[1][limit[1]][3] for limit in all_limits(net)}


def assert_unchanged(test, asked, *arguments):
    """Asks, and sees that what was handed in is as it was; a refusal is an answer, too."""
    before = copy.deepcopy(arguments)
    try:
        asked(*arguments)
    except ValueError:
        pass
    test.assertEqual(arguments, before)


def assert_own(test, asked, *arguments):
    """Sees that a told list is a new one each time, and that what is done to it changes nothing."""
    first, second = asked(*arguments), asked(*arguments)
    before = copy.deepcopy(arguments)
    wanted = copy.deepcopy(second)
    test.assertIs(type(first), list)
    test.assertEqual(first, second)
    test.assertIsNot(first, second)
    first.clear()
    first.extend([None] * 3)
    test.assertEqual(second, wanted)
    test.assertEqual(arguments, before)
    test.assertEqual(asked(*arguments), wanted)


def places_of(thing):
    """The ways to all things within a thing, each a tuple of places."""
    found = [()]
    if isinstance(thing, (tuple, list)):
        for at, part in enumerate(thing):
            found.extend((at, *way) for way in places_of(part))
    return found


def part_at(thing, way):
    for at in way:
        thing = thing[at]
    return thing


def put_at(thing, way, part):
    """The thing with another part there."""
    if not way:
        return part
    kept = list(thing)
    kept[way[0]] = put_at(kept[way[0]], way[1:], part)
    return type(thing)(kept)


def spoilt(thing):
    """Near a thing that is built of tuples: lists for tuples, a part more, truths for whole numbers and whole
    numbers for truths, None and texts for any part. Each with the way to what is put there."""
    for way in places_of(thing):
        part = part_at(thing, way)
        others = [str(part), [part], (part,)] + ([0, False, (), []] if part is None else [None])
        if isinstance(part, tuple):
            others += [list(part), part + (None,), len(part)]
        elif isinstance(part, bool):
            others += [int(part), 1 - int(part)]
        elif isinstance(part, int):
            others += [bool(part), part + 10 ** 30, -part - 10 ** 30]
        for other in others:
            yield way, put_at(thing, way, other)
