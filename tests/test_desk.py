"""Points 2, 3, 30 and 31: a desk, its deeds and questions, what it refuses."""

import unittest
import unittest.mock

from drawn import OTHER_THINGS, Numbers, all_limits, losable_lines, put_at
from housed import ALONE, DARK, HOUSES, LAMP, LARGE, MILL, QUIET, HouseTest, drawn_house, whole_rows
from mainskeep.desk import Desk
from mainskeep.errors import MainsError, NoDeed, NoHouse, NoLoss, NoNumber, NoRow, NoText
from mainskeep.making import prices
from mainskeep.money import owed
from mainskeep.runs import cheapest_run
from mainskeep.texts import show_fraction, show_house

FORTY = "9" * 40
TWINS = ((2, ((0, 1, 1, 10), (1, 0, 2, 6))), MILL[1], MILL[2], MILL[3])


def desk_of(house):
    return Desk(show_house(house))


def answer_of(desk, row):
    """The text, or the class of the refusal."""
    try:
        return desk.say(row)
    except MainsError as refusal:
        return type(refusal)


def questions(house):
    return ["house", "limits", "cost", "on", "owed"] + [f"price {hour} {place}" for hour in range(len(house[3]))
                                                        for place in range(house[0][0])]


def without_at(parts, at):
    return parts[:at] + parts[at + 1:]


def done(house, words):
    """The house behind a deed, or the class of the refusal; the points written out."""
    net, works, store, hours = house
    word, *numbers = words
    if word == "lose":
        if numbers[0] >= len(net[1]):
            return NoNumber
        if numbers[0] not in losable_lines(net):
            return NoLoss
        return ((net[0], without_at(net[1], numbers[0])), works, store, hours)
    if word == "stop":
        return NoNumber if numbers[0] >= len(works) else (net, without_at(works, numbers[0]), store, hours)
    hour, number, size, value = numbers
    if hour >= len(hours) or number >= len(hours[hour]) or size > 30 or value > 100:
        return NoNumber
    return put_at(house, (3, hour, number), (hours[hour][number][0], size, value))


class DeskTest(HouseTest):
    def assert_answers(self, desk, house):
        """All questions are answered as by a desk that is told the house anew, and as the points say."""
        anew = desk_of(house)
        answers = {row: desk.say(row) for row in questions(house)}
        self.assertEqual(answers, {row: anew.say(row) for row in questions(house)})
        self.assertTrue(all(type(answer) is str for answer in answers.values()))
        self.assertEqual(answers["house"], show_house(house).replace("\n", ";"))
        self.assertEqual(answers["limits"], str(len(all_limits(house[0]))))
        run = cheapest_run(house)
        if run is None:
            self.assertEqual({answers[row] for row in answers if row not in ("house", "limits")}, {"none"})
            return
        words = ["".join(str(int(truth)) for truth in case[0]) or "-" for case, amounts, weights in run[1]]
        wanted = {"cost": show_fraction(run[0]), "on": " ".join(words)}
        wanted["owed"] = " ".join(map(show_fraction, owed(house, run))) or "-"
        for hour, (case, amounts, weights) in enumerate(run[1]):
            for place, price in enumerate(prices(house[0], weights)):
                wanted[f"price {hour} {place}"] = show_fraction(price)
        for row in wanted:
            self.assertEqual(answers[row], wanted[row], (row, house))

    def assert_refused(self, house, wanted, *rows):
        desk = desk_of(house)
        before = [desk.say(row) for row in questions(house)]
        for row in rows:
            self.assertIs(answer_of(desk, row), wanted, row)
            self.assertEqual(desk.say("house"), before[0])
        self.assertEqual([desk.say(row) for row in questions(house)], before)
        self.assertIs(answer_of(desk, "undo"), NoDeed)


class TestQuestions(DeskTest):
    def test_written_out(self):
        desk = Desk("net 1\nwork 0 2 3 7 1 1 off 10:4\nhour 0:5:100\nhour 0:1:50")
        for row, wanted in (("house", "net 1;work 0 2 3 7 1 1 off 10:4;hour 0:5:100;hour 0:1:50"), ("limits", "0"),
                            ("cost", "72"), ("on", "1 0"), ("price 0 0", "4"), ("owed", "2")):
            self.assertEqual(desk.say(row), wanted)

    def test_a_line_that_binds(self):
        desk = desk_of(MILL)
        for row, wanted in (("limits", "2"), ("cost", "249"), ("on", "11 11 11"), ("price 0 0", "3"),
                            ("price 0 1", "20"), ("owed", "6 0")):
            self.assertEqual(desk.say(row), wanted)

    def test_fractions(self):
        desk = desk_of(LARGE)
        self.assertEqual(desk.say("cost"), show_fraction(cheapest_run(LARGE)[0]))
        self.assertIn("/", desk.say("cost"))

    def test_no_works(self):
        house = (ALONE, (), None, (((0, 3, 10),), (), ((0, 1, 4),)))
        desk = desk_of(house)
        self.assertEqual([desk.say(row) for row in ("cost", "on", "owed")], ["34", "- - -", "-"])
        self.assertEqual([desk_of(QUIET).say(row) for row in ("cost", "on", "owed")], ["0", "-", "-"])

    def test_no_run(self):
        for house in (DARK, (ALONE, (LAMP[1][0],), None, (((0, 30, 100),),))):
            desk = desk_of(house)
            self.assertEqual([desk.say(row) for row in ("cost", "on", "owed", "price 0 0")], ["none"] * 4)
            self.assertEqual(desk.say("limits"), str(len(all_limits(house[0]))))

    def test_all_houses(self):
        numbers = Numbers(317)
        for house in HOUSES + (TWINS,) + tuple(drawn_house(numbers) for _ in range(60)):
            self.assert_answers(desk_of(house), house)

    def test_what_is_on_belongs_to_a_cheapest_run(self):
        for house in (LAMP, MILL, LARGE):
            desk = desk_of(house)
            costs = self.case_costs(house)
            told = [tuple(sign == "1" for sign in word) for word in desk.say("on").split(" ")]
            found = []
            for row in whole_rows(house):
                parts = [costs[hour, case] for hour, case in enumerate(row)]
                if [case[0] for case in row] == told and None not in parts:
                    starts = sum(work[4] for number, work in enumerate(house[1])
                                 for hour, on in enumerate(told)
                                 if on[number] and not (told[hour - 1][number] if hour else work[7]))
                    found.append(sum(parts) + starts)
            self.assertEqual(show_fraction(min(found).as_integer_ratio()), desk.say("cost"))

    def test_the_same_answers_in_any_order(self):
        for house in (MILL, LARGE, DARK):
            wanted = {row: desk_of(house).say(row) for row in questions(house)}
            desk = desk_of(house)
            for row in questions(house)[::-1] + questions(house):
                self.assertEqual(desk.say(row), wanted[row])


class TestDeeds(DeskTest):
    def test_lose(self):
        desk = desk_of(TWINS)
        self.assertEqual(desk.say("limits"), "8")
        self.assertEqual(desk.say("lose 0"), "ok")
        self.assertTrue(desk.say("house").startswith("net 2;line 1 0 2 6;work"))
        self.assertEqual(desk.say("limits"), "2")
        # The line behind it has its number now, and can't be lost any more.
        self.assertIs(answer_of(desk, "lose 1"), NoNumber)
        self.assertIs(answer_of(desk, "lose 0"), NoLoss)
        self.assertEqual(desk.say("undo"), "ok")
        self.assert_answers(desk, TWINS)
        self.assertEqual(desk.say("lose 1"), "ok")
        self.assertTrue(desk.say("house").startswith("net 2;line 0 1 1 10;work"))

    def test_stop(self):
        desk = desk_of(LARGE)
        self.assertEqual(desk.say("stop 1"), "ok")
        house = (LARGE[0], (LARGE[1][0], LARGE[1][2]), LARGE[2], LARGE[3])
        self.assert_answers(desk, house)
        self.assertEqual(desk.say("stop 1"), "ok")
        self.assert_answers(desk, (LARGE[0], LARGE[1][:1], LARGE[2], LARGE[3]))
        self.assertIs(answer_of(desk, "stop 1"), NoNumber)
        self.assertEqual(desk.say("stop 0"), "ok")
        self.assert_answers(desk, (LARGE[0], (), LARGE[2], LARGE[3]))
        self.assertIs(answer_of(desk, "stop 0"), NoNumber)

    def test_want(self):
        desk = desk_of(MILL)
        self.assertEqual(desk.say("want 1 1 7 99"), "ok")
        house = put_at(MILL, (3, 1, 1), (0, 7, 99))
        self.assert_answers(desk, house)
        self.assertEqual(desk.say("want 0 0 0 0"), "ok")
        self.assert_answers(desk, put_at(house, (3, 0, 0), (1, 0, 0)))
        self.assertEqual(desk.say("want 2 1 30 100"), "ok")
        self.assert_answers(desk, put_at(put_at(house, (3, 0, 0), (1, 0, 0)), (3, 2, 1), (0, 30, 100)))

    def test_a_deed_that_takes_the_run_away_and_back(self):
        desk = desk_of(LAMP)
        self.assertEqual(desk.say("cost"), "72")
        self.assertEqual(desk.say("want 0 0 30 100"), "ok")
        self.assertEqual([desk.say(row) for row in ("cost", "on", "owed", "price 1 0")], ["none"] * 4)
        self.assertEqual(desk.say("undo"), "ok")
        self.assertEqual([desk.say(row) for row in ("cost", "on", "owed", "price 0 0")], ["72", "1 0", "2", "4"])

    def test_undo_of_several_deeds(self):
        desk = desk_of(TWINS)
        houses = [TWINS]
        for words in (("stop", 1), ("want", 0, 0, 3, 40), ("lose", 1), ("want", 0, 0, 5, 45), ("stop", 0)):
            self.assertEqual(desk.say(" ".join(map(str, words))), "ok")
            houses.append(done(houses[-1], words))
            self.assert_answers(desk, houses[-1])
        while len(houses) > 1:
            houses.pop()
            self.assertEqual(desk.say("undo"), "ok")
            self.assert_answers(desk, houses[-1])
        self.assertIs(answer_of(desk, "undo"), NoDeed)
        self.assert_answers(desk, TWINS)

    def test_undo_is_no_deed(self):
        # Taken back twice, two deeds are back, not the first taking back.
        desk = desk_of(MILL)
        for row in ("want 0 0 1 1", "want 0 0 2 2", "undo", "undo"):
            self.assertEqual(desk.say(row), "ok")
        self.assert_answers(desk, MILL)
        self.assertIs(answer_of(desk, "undo"), NoDeed)

    def test_a_deed_behind_an_undo(self):
        desk = desk_of(MILL)
        for row in ("want 0 0 1 1", "want 1 0 2 2", "undo", "want 2 0 3 3", "undo"):
            self.assertEqual(desk.say(row), "ok")
        self.assert_answers(desk, put_at(MILL, (3, 0, 0), (1, 1, 1)))

    def test_a_deed_that_changes_nothing_is_one(self):
        desk = desk_of(MILL)
        self.assertEqual(desk.say("want 0 0 8 100"), "ok")
        self.assert_answers(desk, MILL)
        self.assertEqual(desk.say("undo"), "ok")
        self.assertIs(answer_of(desk, "undo"), NoDeed)

    def test_two_desks_at_once(self):
        one, other = desk_of(MILL), desk_of(MILL)
        one.say("stop 0")
        self.assert_answers(other, MILL)
        self.assertIs(answer_of(other, "undo"), NoDeed)
        other.say("want 0 0 1 1")
        self.assert_answers(one, (MILL[0], MILL[1][1:], MILL[2], MILL[3]))
        one.say("undo")
        self.assert_answers(one, MILL)
        self.assert_answers(other, put_at(MILL, (3, 0, 0), (1, 1, 1)))

    def test_drawn_rows_of_deeds(self):
        numbers = Numbers(331)
        seen = {"ok": 0, NoNumber: 0, NoLoss: 0, NoDeed: 0}
        for _ in range(25):
            houses = [drawn_house(numbers, hours=numbers.within(1, 2))]
            desk = desk_of(houses[0])
            for _ in range(12):
                words = numbers.one_of((("lose", numbers.below(6)), ("stop", numbers.below(3)), ("undo",),
                                        ("want", numbers.below(3), numbers.below(3), numbers.below(33),
                                         numbers.below(105))))
                if words == ("undo",):
                    wanted = NoDeed if len(houses) == 1 else houses[-2]
                else:
                    wanted = done(houses[-1], words)
                found = answer_of(desk, " ".join(map(str, words)))
                self.assertEqual(found, "ok" if type(wanted) is tuple else wanted)
                seen[found] += 1
                if found == "ok":
                    houses = houses[:-1] if words == ("undo",) else houses + [wanted]
                if numbers.below(3) == 0:
                    self.assert_answers(desk, houses[-1])
            self.assert_answers(desk, houses[-1])
        self.assertGreater(min(seen.values()), 5, seen)


class TestRefusals(DeskTest):
    def test_no_desk(self):
        for thing in OTHER_THINGS + ("net 1\nhour\n", "net 1\nhour ", "net 1;hour"):
            with self.assertRaises(MainsError) as caught:
                Desk(thing)
            self.assertIs(type(caught.exception), NoText)
        for text in ("net 1", "net 5\nhour", "net 2\nhour", "net 1" + "\nhour" * 4):
            with self.assertRaises(MainsError) as caught:
                Desk(text)
            self.assertIs(type(caught.exception), NoHouse)

    def test_no_texts(self):
        self.assert_refused(MILL, NoRow, *[thing for thing in OTHER_THINGS if not isinstance(thing, str)])
        self.assert_refused(MILL, NoRow, ["undo"], ("cost",), ["lose", 0], b"cost")

    def test_other_first_words(self):
        self.assert_refused(MILL, NoRow, "", " ", "Lose 0", "LOSE 0", "loses 0", "los 0", "lose0", "costs",
                            "prices 0 0", "0 lose", "run", "redo", "wants 0 0 1 1", "on:", "\n", "cost\n", "\ncost",
                            "cost\ncost", "cost;on", "none", "ok", "-")

    def test_too_few_or_too_many_words(self):
        self.assert_refused(MILL, NoRow, "lose", "lose 0 0", "stop", "stop 0 0", "want", "want 0", "want 0 0",
                            "want 0 0 1", "want 0 0 1 1 1", "undo 0", "undo undo", "house 0", "limits 0", "cost 0",
                            "on 0", "price", "price 0", "price 0 0 0", "owed 0")

    def test_blanks(self):
        for row in questions(MILL) + ["undo", "lose 0", "stop 0", "want 0 0 1 1"]:
            self.assert_refused(MILL, NoRow, row + " ", " " + row, row + "\n", row + "\t", "\t" + row)
            if " " in row:
                self.assert_refused(MILL, NoRow, row.replace(" ", "  "), row.replace(" ", "\t"), row.replace(" ", "\n"))

    def test_numbers_in_figures(self):
        rows = ("lose {}", "stop {}", "want {} 0 1 1", "want 0 {} 1 1", "want 0 0 {} 1", "want 0 0 1 {}", "price {} 0",
                "price 0 {}")
        wrong = ("-1", "00", "01", "+1", "x", "1.0", "1_0", "0x1", "1e1", "-0", ":", "\u0661", "\u00b2", "on",
                 "1" + FORTY, "0" * 40, "1" + "0" * 40)
        for row in rows:
            self.assert_refused(MILL, NoRow, *[row.replace("{}", word) for word in wrong])
            self.assert_refused(MILL, NoNumber, row.replace("{}", FORTY), row.replace("{}", "1" + "0" * 39))

    def test_numbers_of_which_there_is_none(self):
        self.assert_refused(MILL, NoNumber, "lose 1", "lose 7", "stop 2", "stop 9", "want 3 0 1 1", "want 0 1 1 1",
                            "want 1 2 1 1", "want 0 0 31 1", "want 0 0 1 101", "price 3 0", "price 0 2", "price 9 9")
        self.assert_refused(QUIET, NoNumber, "lose 0", "stop 0", "want 0 0 1 1", "want 1 0 1 1", "price 1 0",
                            "price 0 1")

    def test_numbers_at_their_ends(self):
        for row in ("lose 1", "lose 0", "stop 1", "want 2 1 30 100", "want 0 0 0 0", "price 2 1", "price 0 0"):
            self.assertIs(type(answer_of(desk_of(TWINS), row)), str)

    def test_lines_that_can_not_be_lost(self):
        self.assert_refused(MILL, NoLoss, "lose 0")
        house = ((3, ((0, 1, 1, 5), (1, 2, 1, 5), (2, 1, 1, 5))), (), None, ((),))
        self.assert_refused(house, NoLoss, "lose 0")
        self.assert_refused(house, NoNumber, "lose 3")
        for row in ("lose 1", "lose 2"):
            self.assertEqual(desk_of(house).say(row), "ok")

    def test_nothing_to_take_back(self):
        self.assert_refused(MILL, NoDeed, "undo")

    def test_which_goes_first(self):
        # No row ahead of no number, in whatever place; no number ahead of no run.
        self.assert_refused(MILL, NoRow, "want 9 0 01 1", "want 01 9 1 1", "want 9 9 99 x", "price 9 x", "price x 9",
                            "lose 9 9", "undo 9")
        self.assert_refused(DARK, NoNumber, "price 2 0", "price 0 2", "stop 0")
        self.assertEqual(desk_of(DARK).say("price 1 1"), "none")

    def test_what_is_refused_is_no_deed(self):
        desk = desk_of(TWINS)
        self.assertEqual(desk.say("want 0 0 1 1"), "ok")
        for row in ("lose 7", "stop 7", "want 0 0 31 1", "lose", None, "want 0 0 2 101", "undo 1"):
            self.assertIsNot(answer_of(desk, row), "ok")
        self.assert_answers(desk, put_at(TWINS, (3, 0, 0), (1, 1, 1)))
        self.assertEqual(desk.say("undo"), "ok")
        self.assertIs(answer_of(desk, "undo"), NoDeed)

    def test_each_refusal_is_of_its_own_class(self):
        desk = desk_of(MILL)
        for row, wanted in ((5, NoRow), ("lose 9", NoNumber), ("lose 0", NoLoss), ("undo", NoDeed)):
            with self.assertRaises(MainsError) as caught:
                desk.say(row)
            self.assertIs(type(caught.exception), wanted)


class TestTheSameRun(DeskTest):
    # Two runs of one house, alike in their cost: the same work twice.
    HOUSE = (ALONE, ((0, 2, 3, ((10, 4),), 7, 1, 1, False),) * 2, None, (((0, 5, 100),),))

    def runs(self):
        """Each in its turn, told anew at each call."""
        weights = ((4, 1), ())
        told = [((22, 1), [((on, 0), [(3, 1)], weights)]) for on in ((True, False), (False, True))]
        return [run for _ in range(5) for run in told]

    def test_the_run_stays_as_long_as_the_house(self):
        for run in self.runs():
            self.assert_run(self.HOUSE, run)
        with unittest.mock.patch("mainskeep.desk.cheapest_run", side_effect=self.runs()) as asked:
            desk = desk_of(self.HOUSE)
            for _ in range(3):
                answers = [desk.say(row) for row in ("on", "owed", "cost", "price 0 0", "house", "limits")]
                self.assertEqual(answers[:4], ["10", "2 0", "22", "4"])
                for row in ("undo", "stop 9", "lose 0", "want 0 0 31 1", "price 0 9", None, "on 1"):
                    self.assertIsInstance(answer_of(desk, row), type)
            self.assertEqual(asked.call_count, 1)
            desk.say("want 0 0 4 100")
            self.assertEqual([desk.say("on"), desk.say("owed"), desk.say("on")], ["01", "0 2", "01"])
            desk.say("undo")
            self.assertIn(desk.say("owed"), ("2 0", "0 2"))
            self.assertEqual(desk.say("on") == "10", desk.say("owed") == "2 0")


if __name__ == "__main__":
    unittest.main()
