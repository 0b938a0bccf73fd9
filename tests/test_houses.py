"""Points 2 and 15 to 18: works, stores, wants, houses."""

import unittest

from drawn import LONG, OTHER_THINGS, Numbers, assert_unchanged, put_at, spoilt
from housed import drawn_house
from mainskeep.houses import is_house

PAIR = (2, ((0, 1, 1, 10),))
ALONE = (1, ())
FULL = (4, ((0, 1, 1, 10), (0, 2, 2, 20), (0, 3, 3, 30), (1, 2, 4, 15), (1, 3, 5, 25), (2, 3, 6, 35)))
WORK = (1, 5, 7, ((10, 3), (20, 8)), 40, 2, 1, False)
STORE = (0, 2, 1, 10, 8)
WANT = (1, 12, 60)
HOUSE = (PAIR, (WORK, (0, 0, 0, ((1, 0),), 0, 1, 2, True)), STORE, ((WANT, (0, 5, 100)), (), ((0, 30, 0),)))
LARGE = (FULL, ((3, 20, 99, ((20, 99), (20, 99)), 99, 2, 2, True),) * 3, (3, 2, 2, 20, 20), (((3, 30, 100),) * 3,) * 3)
SMALL = (ALONE, (), None, ((),))
HOUSES = (
    SMALL,
    HOUSE,
    LARGE,
    (PAIR, (), STORE, ((), (), ())),
    (PAIR, (WORK,), None, ((WANT,),)),
    (ALONE, ((0, 0, 0, ((1, 0), (1, 0)), 0, 1, 1, False),), (0, 1, 0, 1, 0), (((0, 0, 0),),)),
)


class HouseTest(unittest.TestCase):
    def assert_is(self, wanted, *things):
        for thing in things:
            with self.subTest(thing=thing):
                self.assertIs(is_house(thing), wanted)


class TestWholeHouses(HouseTest):
    def test_ordinary_houses(self):
        self.assert_is(True, *HOUSES)

    def test_other_kinds(self):
        self.assert_is(False, *OTHER_THINGS)
        self.assert_is(False, PAIR, WORK, STORE, WANT, (PAIR,), [HOUSE], (HOUSE,), str(HOUSE))

    def test_things_near_houses(self):
        for house in HOUSES:
            # A store may be None.
            self.assert_is(False, *[thing for way, thing in spoilt(house) if way != (2,) or thing[2] is not None])

    def test_a_part_more_or_less(self):
        for house in HOUSES:
            self.assert_is(False, house[:3], house[1:], house[:2], house + (None,), house + ((),), house * 2)

    def test_parts_in_another_order(self):
        net, works, store, hours = HOUSE
        self.assert_is(False, (net, store, works, hours), (net, works, hours, store), (works, net, store, hours))

    def test_no_net(self):
        for net in ((2, ()), (0, ()), (5, PAIR[1]), (2, ((0, 1, 0, 10),)), (2, ((0, 1, 1, 100),)), (2, PAIR[1] * 7),
                    None):
            self.assert_is(False, put_at(HOUSE, (0,), net), put_at(SMALL, (0,), net))

    def test_how_many_works(self):
        for many in range(4):
            self.assert_is(True, (PAIR, (WORK,) * many, None, ((),)))
        self.assert_is(False, (PAIR, (WORK,) * 4, None, ((),)), (PAIR, (WORK,) * 900, None, ((),)),
                       (PAIR, WORK, None, ((),)))

    def test_how_many_wants(self):
        for many in range(4):
            self.assert_is(True, (PAIR, (), None, ((WANT,) * many,)))
        self.assert_is(False, (PAIR, (), None, ((WANT,) * 4,)), (PAIR, (), None, ((), (), (WANT,) * 4)),
                       (PAIR, (), None, (WANT,)))

    def test_how_many_hours(self):
        for many in (1, 2, 3):
            self.assert_is(True, (PAIR, (), None, ((WANT,),) * many))
        self.assert_is(False, (PAIR, (), None, ()), (PAIR, (), None, ((),) * 4), (PAIR, (), None, ((WANT,),) * 4))

    def test_each_work_and_each_hour_is_looked_at(self):
        for at in range(3):
            self.assert_is(False, put_at(LARGE, (1, at, 1), 21), put_at(LARGE, (1, at), None),
                           put_at(LARGE, (3, at), [None]))
            for number in range(3):
                self.assert_is(False, put_at(LARGE, (3, at, number, 1), 31), put_at(LARGE, (3, at, number), ()))

    def test_what_is_handed_in_stays_as_it_was(self):
        for thing in ([PAIR, [WORK], None, [[WANT]]], (PAIR, [], STORE, [[WANT]]), put_at(HOUSE, (1, 0), list(WORK))):
            assert_unchanged(self, is_house, thing)

    def test_large_things(self):
        self.assert_is(False, put_at(HOUSE, (3,), ((),) * 9000), put_at(HOUSE, (0, 0), LONG),
                       put_at(HOUSE, (3, 0, 0, 1), LONG))


class TestBounds(HouseTest):
    """Each number at its bounds and one beyond."""

    def assert_bounds(self, house, way, low, high):
        for number in (low, high, (low + high) // 2):
            self.assert_is(True, put_at(house, way, number))
        for number in (low - 1, high + 1, -LONG, LONG, True, False, None, str(low), [low], (low,)):
            self.assert_is(False, put_at(house, way, number))

    def test_places_are_the_net_s(self):
        for net, high in ((PAIR, 1), (FULL, 3)):
            house = (net,) + HOUSE[1:]
            self.assert_bounds(house, (1, 0, 0), 0, high)
            self.assert_bounds(house, (2, 0), 0, high)
            self.assert_bounds(house, (3, 0, 1, 0), 0, high)
        for house in ((ALONE, (WORK,), None, ((),)), (ALONE, (), (1, 2, 1, 10, 8), ((),)),
                      (ALONE, (), None, ((WANT,),))):
            self.assert_is(False, house)

    def test_work(self):
        self.assert_bounds(HOUSE, (1, 0, 1), 0, 20)
        self.assert_bounds(HOUSE, (1, 0, 2), 0, 99)
        self.assert_bounds(HOUSE, (1, 0, 4), 0, 99)
        self.assert_bounds(HOUSE, (1, 0, 5), 1, 2)
        self.assert_bounds(HOUSE, (1, 0, 6), 1, 2)

    def test_pieces(self):
        self.assert_bounds(HOUSE, (1, 0, 3, 0, 0), 1, 20)
        self.assert_bounds(HOUSE, (1, 0, 3, 1, 0), 1, 20)
        self.assert_bounds(HOUSE, (1, 1, 3, 0, 1), 0, 99)
        # The second price is no less than the first one, 3 and 8 here.
        self.assert_bounds(HOUSE, (1, 0, 3, 0, 1), 0, 8)
        self.assert_bounds(HOUSE, (1, 0, 3, 1, 1), 3, 99)

    def test_how_many_pieces(self):
        for pieces in (((10, 3),), ((10, 3), (10, 3)), ((10, 0), (1, 99))):
            self.assert_is(True, put_at(HOUSE, (1, 0, 3), pieces))
        for pieces in ((), ((10, 3), (10, 3), (10, 3)), (10, 3), ((),), ((10,),), ((10, 3, 1),), ((10, 3), (10,)),
                       ((10, 3), None), ([10, 3],), [(10, 3)], ((10, 3), (10, 2)), ((10, 99), (10, 0))):
            self.assert_is(False, put_at(HOUSE, (1, 0, 3), pieces))

    def test_was(self):
        for was in (True, False):
            self.assert_is(True, put_at(HOUSE, (1, 0, 7), was))
        for was in (0, 1, None, "on", "True", (), [True]):
            self.assert_is(False, put_at(HOUSE, (1, 0, 7), was))

    def test_a_part_of_a_work_more_or_less(self):
        for at in range(8):
            self.assert_is(False, put_at(HOUSE, (1, 0), WORK[:at] + WORK[at + 1:]))
        self.assert_is(False, *[put_at(HOUSE, (1, 0), thing) for thing in (WORK + (0,), (), None)])

    def test_store(self):
        self.assert_is(True, put_at(HOUSE, (2,), None))
        # Its level is 1, taken are 10 and given 8.
        self.assert_bounds(HOUSE, (2, 1), 1, 2)
        self.assert_bounds(HOUSE, (2, 2), 0, 2)
        self.assert_bounds(HOUSE, (2, 3), 8, 20)
        self.assert_bounds(HOUSE, (2, 4), 0, 10)
        self.assert_bounds(put_at(HOUSE, (2,), (0, 1, 0, 1, 0)), (2, 2), 0, 1)
        self.assert_bounds(put_at(HOUSE, (2,), (0, 1, 0, 1, 0)), (2, 3), 1, 20)
        self.assert_bounds(put_at(HOUSE, (2,), (0, 1, 0, 1, 0)), (2, 4), 0, 1)
        self.assert_is(False, put_at(HOUSE, (2,), (0, 1, 2, 10, 8)), put_at(HOUSE, (2,), (0, 0, 0, 10, 8)),
                       put_at(HOUSE, (2,), (0, 1, 0, 0, 0)))

    def test_a_part_of_a_store_more_or_less(self):
        for at in range(5):
            self.assert_is(False, put_at(HOUSE, (2,), STORE[:at] + STORE[at + 1:]))
        others = (STORE + (0,), (), (STORE,), (None,), 0, False, "")
        self.assert_is(False, *[put_at(HOUSE, (2,), thing) for thing in others])

    def test_want(self):
        self.assert_bounds(HOUSE, (3, 0, 0, 1), 0, 30)
        self.assert_bounds(HOUSE, (3, 0, 0, 2), 0, 100)
        self.assert_bounds(HOUSE, (3, 2, 0, 1), 0, 30)

    def test_a_part_of_a_want_more_or_less(self):
        for at in range(3):
            self.assert_is(False, put_at(HOUSE, (3, 0, 0), WANT[:at] + WANT[at + 1:]))
        others = (WANT + (0,), (), (WANT,), list(WANT), None, 0)
        self.assert_is(False, *[put_at(HOUSE, (3, 0, 0), thing) for thing in others])


class TestDrawn(HouseTest):
    def test_drawn_houses(self):
        numbers = Numbers(167)
        for _ in range(200):
            self.assert_is(True, drawn_house(numbers))

    def test_things_near_drawn_houses(self):
        numbers = Numbers(173)
        for _ in range(20):
            for way, thing in spoilt(drawn_house(numbers)):
                if way != (2,) or thing[2] is not None:
                    self.assertIs(is_house(thing), False, thing)


if __name__ == "__main__":
    unittest.main()
