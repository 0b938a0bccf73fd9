"""Papers: what shows that no run costs less, or that there is none."""

from mainskeep.plans import all_makings, all_worths
from mainskeep.states import first_state


def hour_bounds(makings):
    """The bounds of an hour's cases, in their order, by their makings."""
    # Made or not, the last part of a making is the weights that show it.
    return tuple([(case, makings[case][-1]) for case in makings])


def least_paper(house):
    """A paper that tells what a cheapest run costs, or that there is none."""
    makings = all_makings(house)
    tables = all_worths(house, makings)
    number = tables[0][first_state(house)]
    bounds = tuple([hour_bounds(made) for made in makings])
    return ("least", number, bounds, tuple([tuple(table.items()) for table in tables]))
