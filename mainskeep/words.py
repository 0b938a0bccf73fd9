"""Words: whole numbers in figures."""

FIGURES = "0123456789"
MOST_FIGURES = 40


def is_number(word):
    """Whether a text is a number in figures, of at most forty, no nought ahead but in 0 itself."""
    if word == "" or len(word) > MOST_FIGURES:
        return False
    if not all([sign in FIGURES for sign in word]):
        return False
    return word == "0" or word[0] != "0"


def numbers_of(words):
    """The numbers that the words are, or None where one of them is none."""
    if not all([is_number(word) for word in words]):
        return None
    return [int(word) for word in words]


def figures(number):
    """A whole number from 0 on in figures, however many."""
    # Python itself refuses to write numbers of some thousands of figures at once.
    piece = 10 ** 40
    found = []
    while number >= piece:
        number, rest = divmod(number, piece)
        found.append(str(rest).zfill(40))
    found.append(str(number))
    return "".join(found[::-1])
