"""Points 2, 28 and 29: a house as a text and read from one, a fraction as a text."""

import unittest

from drawn import LONG, OTHER_THINGS, Numbers, assert_unchanged, ratio
from housed import DARK, HOUSES, LARGE, MILL, QUIET, drawn_house
from mainskeep.errors import MainsError, NoHouse, NoText
from mainskeep.fractions import times
from mainskeep.houses import is_house
from mainskeep.texts import read_house, show_fraction, show_house

MILL_TEXT = """net 2
line 0 1 1 10
work 0 0 2 5 2 1 on 15:3 20:8
work 1 1 6 9 1 2 off 12:20
store 1 1 0 4 3
hour 1:8:100
hour 1:14:90 0:2:30
hour 1:16:100 0:0:40"""
FORTY = "9" * 40


def answer_of(thing):
    """The house, or the class of the refusal."""
    try:
        return read_house(thing)
    except MainsError as refusal:
        return type(refusal)


class TextTest(unittest.TestCase):
    def assert_no_text(self, *things):
        for thing in things:
            self.assertIs(answer_of(thing), NoText, thing)

    def assert_no_house(self, *texts):
        for text in texts:
            self.assertIs(answer_of(text), NoHouse, text)

    def with_row(self, at, row):
        """The mill's text with another row there."""
        rows = MILL_TEXT.split("\n")
        return "\n".join(rows[:at] + [row] + rows[at + 1:])

    def with_rows(self, at, *more):
        """The mill's text with more rows ahead of that one."""
        rows = MILL_TEXT.split("\n")
        return "\n".join(rows[:at] + list(more) + rows[at:])


class TestShown(TextTest):
    def test_written_out(self):
        self.assertEqual(show_house(MILL), MILL_TEXT)
        self.assertEqual(show_house(QUIET), "net 1\nhour")
        self.assertEqual(show_house(DARK), "net 2\nline 0 1 1 10\nstore 0 2 1 3 2\nhour 1:5:60\nhour 1:5:100")

    def test_each_other_s(self):
        numbers = Numbers(307)
        for house in HOUSES + tuple(drawn_house(numbers) for _ in range(300)):
            text = show_house(house)
            self.assertIs(type(text), str)
            found = read_house(text)
            self.assertEqual(found, house)
            self.assertIs(is_house(found), True)
            self.assertEqual(show_house(found), text)

    def test_what_is_handed_in_stays_as_it_was(self):
        assert_unchanged(self, show_house, LARGE)


class TestRead(TextTest):
    def test_written_out(self):
        self.assertEqual(read_house(MILL_TEXT), MILL)
        self.assertEqual(read_house("net 1\nhour"), QUIET)
        self.assertEqual(read_house("net 1\nhour\nhour 0:0:0\nhour"), ((1, ()), (), None, ((), ((0, 0, 0),), ())))
        self.assertEqual(read_house("net 1\nwork 0 1 2 3 1 2 on 4:5\nhour"),
                         ((1, ()), ((0, 1, 2, ((4, 5),), 3, 1, 2, True),), None, ((),)))

    def test_no_texts(self):
        self.assert_no_text(*OTHER_THINGS)
        self.assert_no_text(MILL, [MILL_TEXT], (MILL_TEXT,), MILL_TEXT.split("\n"), b"net 1\nhour", QUIET)

    def test_empty_rows_and_line_ends(self):
        self.assert_no_text("", "\n", " ", "net 1\nhour\n", "\nnet 1\nhour", "net 1\n\nhour", "net 1\r\nhour",
                            "net 1\rhour", "net 1\n", "net 1;hour", "net 1\thour", "net 1 hour", "net 1\nhour\n\n")
        for at in range(len(MILL_TEXT.split("\n")) + 1):
            self.assert_no_text(self.with_rows(at, ""), self.with_rows(at, " "))
        self.assert_no_text(MILL_TEXT + "\n")

    def test_blanks(self):
        for at, sign in enumerate(MILL_TEXT):
            if sign == " ":
                self.assert_no_text(MILL_TEXT[:at] + " " + MILL_TEXT[at:], MILL_TEXT[:at] + "\t" + MILL_TEXT[at + 1:])
        for at, row in enumerate(MILL_TEXT.split("\n")):
            self.assert_no_text(*[self.with_row(at, other) for other in (row + " ", " " + row, row + "\t")])
        self.assert_no_text("net 1\nhour ", "net 1 \nhour", "net 1\n hour")

    def test_noughts_ahead(self):
        rows = MILL_TEXT.split("\n")
        for at, row in enumerate(rows):
            words = row.split(" ")
            for place, word in enumerate(words):
                if word[0].isdigit():
                    parts = word.split(":")
                    for number in range(len(parts)):
                        for other in ("0" + parts[number], "00", "-" + parts[number], "+" + parts[number],
                                      parts[number] + ".0", parts[number] + "_0", "", "x", "-0", "1e1", "0x1", " "):
                            changed = ":".join(parts[:number] + [other] + parts[number + 1:])
                            written = " ".join(words[:place] + [changed] + words[place + 1:])
                            self.assert_no_text(self.with_row(at, written))

    def test_figures_of_other_kinds(self):
        self.assert_no_text("net \u0661\nhour", "net \u00b2\nhour", "net \uff11\nhour", "net 1\nhour 0:\u0665:100")

    def test_numbers_of_forty_figures_and_more(self):
        for at, row in enumerate(MILL_TEXT.split("\n")):
            words = row.split(" ")
            for place in range(1, len(words)):
                if words[place] not in ("on", "off"):
                    for number in range(len(words[place].split(":"))):
                        parts = words[place].split(":")
                        for figures, wanted in ((FORTY, NoHouse), ("1" + "0" * 39, NoHouse), ("1" + FORTY, NoText),
                                                ("1" + "0" * 40, NoText), ("0" * 40, NoText)):
                            parts[number] = figures
                            changed = words[:place] + [":".join(parts)] + words[place + 1:]
                            self.assertIs(answer_of(self.with_row(at, " ".join(changed))), wanted)

    def test_first_words(self):
        for at, row in enumerate(MILL_TEXT.split("\n")):
            word = row.split(" ")[0]
            for other in (word.upper(), word.title(), word + "s", word[:-1], "", "place", word + ":", "1"):
                self.assert_no_text(self.with_row(at, other + row[len(word):]))

    def test_a_word_more_or_less(self):
        rows = MILL_TEXT.split("\n")
        for at in (0, 1, 4):
            words = rows[at].split(" ")
            self.assert_no_text(self.with_row(at, rows[at] + " 1"), self.with_row(at, " ".join(words[:-1])),
                                self.with_row(at, words[0]), self.with_row(at, rows[at] + ":1"))
        for at in (2, 3):
            words = rows[at].split(" ")
            for less in range(1, 8):
                self.assert_no_text(self.with_row(at, " ".join(words[:less + 1])))
                self.assert_no_text(self.with_row(at, " ".join(words[:less] + words[less + 1:8])))

    def test_was(self):
        for was in ("On", "ON", "of", "true", "1", "0", "True", "onoff", "on:off", "on:", "5:1"):
            self.assert_no_text(self.with_row(3, f"work 1 1 6 9 1 2 {was} 12:20"))
        self.assertEqual(read_house(self.with_row(3, "work 1 1 6 9 1 2 on 12:20"))[1][1][7], True)
        self.assert_no_text(*[self.with_row(3, "work 1 1 6 9 1 " + words) for words in (
            "on 2 12:20", "2 12:20 on", "2 on 12:20 on")])

    def test_pieces(self):
        for piece in ("12", "12:", ":20", "12:20:1", "12;20", "12::20", ":", "12:20:", "12,20", "12 20", "12:20,13:20"):
            self.assert_no_text(self.with_row(3, "work 1 1 6 9 1 2 off " + piece))

    def test_wants(self):
        for want in ("1:8", "1:8:", ":8:100", "1::100", "1:8:100:1", "1", "::", "1;8;100", "1:8 100", "1:8:100,"):
            self.assert_no_text(self.with_row(5, "hour " + want))

    def test_rows_in_another_order(self):
        rows = MILL_TEXT.split("\n")
        for at in range(len(rows) - 1):
            if rows[at].split(" ")[0] != rows[at + 1].split(" ")[0]:
                self.assert_no_text("\n".join(rows[:at] + [rows[at + 1], rows[at]] + rows[at + 2:]))
        self.assert_no_text("\n".join(rows[::-1]), "\n".join(rows[1:]), "\n".join(rows[1:] + rows[:1]))
        self.assert_no_text(self.with_rows(8, "line 0 1 1 10"), self.with_rows(8, "work 1 1 6 9 1 2 off 12:20"),
                            self.with_rows(1, "hour"), self.with_rows(5, "line 0 1 1 10"))

    def test_rows_of_one_kind_keep_their_order(self):
        rows = MILL_TEXT.split("\n")
        found = read_house("\n".join(rows[:2] + [rows[3], rows[2], rows[4], rows[7], rows[6], rows[5]]))
        self.assertEqual(found, (MILL[0], MILL[1][::-1], MILL[2], MILL[3][::-1]))

    def test_a_second_net_or_store(self):
        self.assert_no_text(self.with_rows(1, "net 2"), self.with_rows(0, "net 1"), self.with_rows(8, "net 2"),
                            self.with_rows(5, "store 1 1 0 4 3"), self.with_rows(4, "store 0 1 0 1 0"),
                            "net 1\nnet 1\nhour")

    def test_no_net(self):
        self.assert_no_text("hour", "line 0 1 1 10\nhour", "store 0 1 0 1 0\nhour")

    def test_no_store_no_works(self):
        rows = MILL_TEXT.split("\n")
        self.assertEqual(read_house("\n".join(rows[:4] + rows[5:])), (MILL[0], MILL[1], None, MILL[3]))
        self.assertEqual(read_house("\n".join(rows[:2] + rows[4:])), (MILL[0], (), MILL[2], MILL[3]))

    def test_too_many_or_too_few(self):
        self.assert_no_house("net 1", "net 2\nline 0 1 1 10", "net 1\nstore 0 1 0 1 0")
        self.assert_no_house(self.with_row(3, "work 1 1 6 9 1 2 off 12:20 12:20 12:20"))
        self.assert_no_house(self.with_rows(1, *["line 0 1 1 10"] * 6))
        self.assert_no_house(self.with_rows(3, *["work 1 1 6 9 1 2 off 12:20"] * 2))
        self.assert_no_house(self.with_row(5, "hour" + " 1:8:100" * 4))
        self.assert_no_house(self.with_rows(5, "hour"), "net 1" + "\nhour" * 4)
        for text in (self.with_rows(1, *["line 0 1 1 10"] * 5), self.with_rows(3, "work 1 1 6 9 1 2 off 12:20"),
                     self.with_row(5, "hour" + " 1:8:100" * 3), self.with_row(3, "work 1 1 6 9 1 2 off 12:20 12:20")):
            self.assertIs(is_house(answer_of(text)), True)

    def test_what_makes_no_house(self):
        self.assert_no_house("net 0\nhour", "net 5\nhour", "net 2\nhour", self.with_row(0, "net 3"),
                             self.with_row(0, "net 1"), self.with_row(1, "line 0 0 1 10"),
                             self.with_row(1, "line 0 2 1 10"), self.with_row(1, "line 0 1 0 10"),
                             self.with_row(1, "line 0 1 10 10"), self.with_row(1, "line 0 1 1 100"))
        self.assert_no_house(*[self.with_row(3, "work " + row) for row in (
            "2 1 6 9 1 2 off 12:20", "1 21 6 9 1 2 off 12:20", "1 1 100 9 1 2 off 12:20", "1 1 6 100 1 2 off 12:20",
            "1 1 6 9 0 2 off 12:20", "1 1 6 9 3 2 off 12:20", "1 1 6 9 1 0 off 12:20", "1 1 6 9 1 3 off 12:20",
            "1 1 6 9 1 2 off 0:20", "1 1 6 9 1 2 off 21:20", "1 1 6 9 1 2 off 12:100", "1 1 6 9 1 2 off 12:20 1:19")])
        self.assert_no_house(*[self.with_row(4, "store " + row) for row in (
            "2 1 0 4 3", "1 0 0 4 3", "1 3 0 4 3", "1 1 2 4 3", "1 1 0 0 0", "1 1 0 21 3", "1 1 0 4 5")])
        self.assert_no_house(*[self.with_row(5, "hour " + row) for row in ("2:8:100", "1:31:100", "1:8:101")])

    def test_no_text_goes_first(self):
        # No house for one row, no text for another one, ahead or behind.
        self.assert_no_text("net 9\nhour ", "net 9\nhours", "net 9\nhour\n", "net 1\nhour 0:99:1\nhour 0:01:1",
                            "net 1" + "\nhour" * 9 + "\nnet 1", "net 1\nwork 0 0 0 0 9 9 on 1:1 1:1 1:1\nhour 1",
                            "net 1\nstore 9 9 9 9 9\nstore 0 1 0 1 0\nhour", "net 1\nline 0 0 0 0\nhour 0:0")

    def test_one_sign_otherwise(self):
        numbers = Numbers(311)
        seen = {"house": 0, NoText: 0, NoHouse: 0}
        for _ in range(3000):
            house = drawn_house(numbers)
            text = show_house(house)
            at = numbers.below(len(text) + 1)
            sign = numbers.one_of("0123456789 :\n-onfhur")
            changed = numbers.one_of((text[:at] + sign + text[at:], text[:at] + text[at + 1:],
                                      text[:at] + sign + text[at + 1:]))
            found = answer_of(changed)
            if found in (NoText, NoHouse):
                seen[found] += 1
            else:
                # What is read is written so and not otherwise.
                self.assertIs(is_house(found), True)
                self.assertEqual(show_house(found), changed)
                seen["house"] += 1
        self.assertGreater(min(seen.values()), 200, seen)

    def test_long_texts(self):
        self.assert_no_text("0" * 3000, " " * 3000, "\n" * 3000, ":" * 3000, "net 1\nhour" + " " * 2990)
        self.assert_no_house("net 1" + "\nhour" * 590, "net 1\nhour" + " 0:0:0" * 490)


class TestFractions(TextTest):
    def test_whole_ones(self):
        for top, wanted in ((0, "0"), (1, "1"), (-1, "-1"), (10, "10"), (-72, "-72"), (LONG, FORTY),
                            (-LONG, "-" + FORTY)):
            self.assertEqual(show_fraction((top, 1)), wanted)

    def test_others(self):
        for u, wanted in (((1, 2), "1/2"), ((-1, 2), "-1/2"), ((7, 3), "7/3"), ((-700, 303), "-700/303"),
                          ((1, LONG), "1/" + FORTY), ((-(10 ** 39), LONG), "-1" + "0" * 39 + "/" + FORTY),
                          ((LONG, 10 ** 39), FORTY + "/1" + "0" * 39)):
            self.assertEqual(show_fraction(u), wanted)

    def test_drawn(self):
        numbers = Numbers(313)
        for bound in (3, 10, 1000, 10 ** 20, 10 ** 39, 10 ** 41, 10 ** 42):
            for _ in range(100):
                top, bottom = numbers.fraction(bound)
                found = show_fraction((top, bottom))
                self.assertIs(type(found), str)
                self.assertEqual(found, str(top) if bottom == 1 else f"{top}/{bottom}")

    def test_noughts_within(self):
        for number in (10 ** 40, 10 ** 40 + 1, 10 ** 80, 5 * 10 ** 80 + 7, 10 ** 79, 10 ** 120 - 1, 10 ** 120):
            self.assertEqual(show_fraction((number, 1)), str(number))
            self.assertEqual(show_fraction((-number, 1)), str(-number))

    def test_what_was_told_may_be_handed_in_whatever_its_size(self):
        # Told products grow beyond what Python writes at once.
        u = ratio(10 ** 20 + 1, 10 ** 20)
        for _ in range(9):
            u = times(u, u)
        top, bottom = show_fraction(u).split("/")
        self.assertEqual(bottom, "1" + "0" * (20 * 512))
        self.assertEqual(len(top), 20 * 512 + 1)
        self.assertTrue(top.startswith("1" + "0" * 17 + "512"))
        self.assertTrue(top.endswith("512" + "0" * 19 + "1"))


if __name__ == "__main__":
    unittest.main()
