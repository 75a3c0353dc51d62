"""Trials: a house is changed within a block, and has its plan back behind it."""

from keptnights.deeds import do_deed


class Trial:
    """A block behind which a house has its plan back, whatever was done."""

    def __init__(self, house):
        self.house = house
        self.before = None

    def __enter__(self):
        self.before = self.house.plan
        return self

    def __exit__(self, kind, value, trace):
        house = self.house
        house.present = self.before


class Batch:
    """A block behind which a house has its plan back if an error ended it."""

    def __init__(self, house):
        self.house = house
        self.before = None
        self.stands = None

    def __enter__(self):
        self.before = self.house.plan
        return self

    def __exit__(self, kind, value, trace):
        house = self.house
        self.stands = True
        if kind is not None:
            self.stands = False
            house.present = self.before


def moved_behind(house, deeds):
    """The names of the singles that move when deeds were done one after the other."""
    for deed in deeds:
        do_deed(house, deed)
    return house.moved()


def tried(house, deeds):
    """Who would move behind some deeds; the house does not change."""
    with Trial(house):
        return moved_behind(house, deeds)


def batched(house, deeds):
    """Do some deeds, or none of them if one raises an error; who moves then."""
    with Batch(house):
        return moved_behind(house, deeds)
