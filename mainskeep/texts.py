"""Texts: a house as rows of words, and read from them; a fraction as a text."""

from mainskeep.errors import NoHouse, NoText
from mainskeep.houses import is_house
from mainskeep.words import figures, numbers_of


def show_fraction(u):
    """A fraction as a text."""
    sign = "-" if u[0] < 0 else ""
    top = sign + figures(abs(u[0]))
    return top if u[1] == 1 else f"{top}/{figures(u[1])}"


def joined(numbers, sign):
    """Whole numbers as one text, with the sign between."""
    return sign.join([str(number) for number in numbers])


def show_work(work):
    """The row of a work."""
    place, least, keep, pieces, start, stay, rest, was = work
    words = [joined((place, least, keep, start, stay, rest), " "), "on" if was else "off"]
    return " ".join(["work"] + words + [joined(piece, ":") for piece in pieces])


def show_house(house):
    """A house as a text."""
    net, works, store, hours = house
    rows = [f"net {net[0]}"]
    rows.extend(["line " + joined(line, " ") for line in net[1]])
    rows.extend([show_work(work) for work in works])
    if store is not None:
        rows.append("store " + joined(store, " "))
    rows.extend([" ".join(["hour"] + [joined(want, ":") for want in wants]) for wants in hours])
    return "\n".join(rows)


def read_numbers(words, many):
    """So many numbers, told by as many words."""
    found = numbers_of(words)
    if found is None or len(found) != many:
        raise NoText("a row has other numbers than told, or is otherwise written")
    return tuple(found)


def read_net(words):
    """How many places the net has."""
    return read_numbers(words, 1)[0]


def read_line(words):
    """A line."""
    return read_numbers(words, 4)


def read_work(words):
    """A work."""
    if len(words) < 8 or words[6] not in ("on", "off"):
        raise NoText("a work has six numbers, on or off, and a piece at least")
    place, least, keep, start, stay, rest = read_numbers(words[:6], 6)
    pieces = tuple([read_numbers(word.split(":"), 2) for word in words[7:]])
    return (place, least, keep, pieces, start, stay, rest, words[6] == "on")


def read_store(words):
    """A store."""
    return read_numbers(words, 5)


def read_hour(words):
    """The wants of an hour."""
    return tuple([read_numbers(word.split(":"), 3) for word in words])


ORDER = ("net", "line", "work", "store", "hour")
READERS = {"net": read_net, "line": read_line, "work": read_work, "store": read_store, "hour": read_hour}


def read_rows(text):
    """What the rows tell, in lists by the rows' first words."""
    found = {word: [] for word in ORDER}
    last = 0
    for row in text.split("\n"):
        words = row.split(" ")
        if words[0] not in READERS or ORDER.index(words[0]) < last:
            raise NoText("a row is of no kind that is told, or out of its order")
        last = ORDER.index(words[0])
        reader = READERS[words[0]]
        found[words[0]].append(reader(words[1:]))
    if len(found["net"]) != 1 or len(found["store"]) > 1:
        raise NoText("there is one net, and one store at most")
    return found


def read_house(text):
    """The house that any thing, as a text, tells."""
    if not isinstance(text, str):
        raise NoText("it is no text")
    found = read_rows(text)
    store = found["store"][0] if found["store"] else None
    house = ((found["net"][0], tuple(found["line"])), tuple(found["work"]), store, tuple(found["hour"]))
    if not is_house(house):
        raise NoHouse("what is written makes no house")
    return house
