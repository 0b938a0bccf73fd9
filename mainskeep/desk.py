"""The desk: keeps a house, is told what breaks and what is wanted otherwise, and is asked."""

from mainskeep.errors import NoDeed, NoNumber, NoRow
from mainskeep.limits import limits
from mainskeep.making import prices
from mainskeep.money import owed
from mainskeep.nets import without
from mainskeep.runs import cheapest_run
from mainskeep.texts import read_house, show_fraction, show_house
from mainskeep.words import numbers_of

# How many numbers stand behind each first word.
NUMBERS = {"lose": 1, "stop": 1, "want": 4, "undo": 0, "house": 0, "limits": 0, "cost": 0, "on": 0, "price": 2,
           "owed": 0}


def read_row(row):
    """The first word of any thing as a row, and the numbers behind it."""
    if not isinstance(row, str):
        raise NoRow("it is no text")
    words = row.split(" ")
    if words[0] not in NUMBERS or len(words) != NUMBERS[words[0]] + 1:
        raise NoRow("there is no such word, or too few or too many words")
    numbers = numbers_of(words[1:])
    if numbers is None:
        raise NoRow("a word is no number in figures")
    return (words[0], numbers)


def check_number(number, high):
    """Refuses a number above the highest one there is."""
    if number > high:
        raise NoNumber("there is none of that number, or it is beyond its bounds")


def lose(house, numbers):
    """The house without a line."""
    net, works, store, hours = house
    check_number(numbers[0], len(net[1]) - 1)
    return (without(net, numbers[0]), works, store, hours)


def stop(house, numbers):
    """The house without a work."""
    net, works, store, hours = house
    check_number(numbers[0], len(works) - 1)
    return (net, works[:numbers[0]] + works[numbers[0] + 1:], store, hours)


def want(house, numbers):
    """The house with a want of another size and worth."""
    net, works, store, hours = house
    hour, at, size, worth = numbers
    check_number(hour, len(hours) - 1)
    wants = hours[hour]
    check_number(at, len(wants) - 1)
    check_number(size, 30)
    check_number(worth, 100)
    changed = wants[:at] + ((wants[at][0], size, worth),) + wants[at + 1:]
    return (net, works, store, hours[:hour] + (changed,) + hours[hour + 1:])


def tell_house(desk, numbers):
    """The house's text in one row."""
    return show_house(desk.house()).replace("\n", ";")


def tell_limits(desk, numbers):
    """How many limits there are."""
    return str(len(limits(desk.house()[0])))


def tell_cost(desk, numbers):
    """What a cheapest run costs."""
    run = desk.run()
    return "none" if run is None else show_fraction(run[0])


def on_word(on):
    """Which works are on, as a word."""
    return "".join(["1" if truth else "0" for truth in on]) or "-"


def tell_on(desk, numbers):
    """Which works are on in each hour of a cheapest run."""
    run = desk.run()
    return "none" if run is None else " ".join([on_word(case[0]) for case, amounts, weights in run[1]])


def tell_price(desk, numbers):
    """The price at a place in an hour of a cheapest run."""
    hour, place = numbers
    net, works, store, hours = desk.house()
    check_number(hour, len(hours) - 1)
    check_number(place, net[0] - 1)
    run = desk.run()
    if run is None:
        return "none"
    return show_fraction(prices(net, run[1][hour][2])[place])


def tell_owed(desk, numbers):
    """What each work is owed in a cheapest run."""
    run = desk.run()
    if run is None:
        return "none"
    return " ".join([show_fraction(part) for part in owed(desk.house(), run)]) or "-"


DEEDS = {"lose": lose, "stop": stop, "want": want}
QUESTIONS = {"house": tell_house, "limits": tell_limits, "cost": tell_cost, "on": tell_on, "price": tell_price,
             "owed": tell_owed}


class Desk:
    """A desk: the house as it was handed in and behind each deed, and the run that is told of the last one."""

    def __init__(self, text):
        self.houses = [read_house(text)]
        # None or one: asked for once at most, so that all questions are answered by the same run.
        self.known = []

    def house(self):
        """The house as it is now."""
        return self.houses[-1]

    def run(self):
        """A cheapest run of the house as it is now, or None."""
        if self.known == []:
            self.known = [cheapest_run(self.house())]
        return self.known[0]

    def take_back(self):
        """Takes the last deed back."""
        if len(self.houses) == 1:
            raise NoDeed("there is nothing to take back")
        self.houses.pop()
        self.known = []
        return "ok"

    def do(self, word, numbers):
        """Does a deed."""
        deed = DEEDS[word]
        self.houses.append(deed(self.house(), numbers))
        self.known = []
        return "ok"

    def say(self, row):
        """The answer to any thing as a row."""
        word, numbers = read_row(row)
        if word == "undo":
            return self.take_back()
        if word in DEEDS:
            return self.do(word, numbers)
        question = QUESTIONS[word]
        return question(self, numbers)
