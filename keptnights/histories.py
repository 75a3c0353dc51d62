"""Histories: a house with the deeds that were done, taken back and done again."""

from keptnights.checks import as_tuples
from keptnights.deeds import copied_deed, do_deed
from keptnights.errors import NothingToUndo
from keptnights.houses import House


class History:
    """A house and all that was done in it."""

    def __init__(self, rooms, annex):
        self.house = House(rooms, annex)
        # Each deed that stands has the plan that was there before it.
        self.done = ()
        self.undone = ()
        self.told = ()

    def __len__(self):
        return len(self.done)

    @property
    def deeds(self):
        """The deeds that stand, in their sequence."""
        return tuple([deed for deed, _ in self.done])

    @property
    def journal(self):
        """All deeds, and all undo and redo, that raised no error."""
        return self.told

    def do_again(self, deed):
        """Do a deed, and keep the plan that was there before it."""
        before = self.house.plan
        moved = do_deed(self.house, deed)
        self.done = self.done + ((deed, before),)
        return moved

    def do(self, deed):
        """Do a deed; the names of the singles that move then."""
        copied = copied_deed(deed)
        moved = self.do_again(copied)
        self.undone = ()
        self.told = self.told + (copied,)
        return moved

    def undo(self):
        """Take the last deed back, and return it."""
        if len(self.done) == 0:
            raise NothingToUndo()
        deed, before = self.done[-1]
        house = self.house
        house.present = before
        self.done = self.done[:-1]
        self.undone = self.undone + (deed,)
        self.told = self.told + (("undo",),)
        return deed

    def redo(self):
        """Do the deed again that was taken back last, and return it."""
        if len(self.undone) == 0:
            raise NothingToUndo()
        deed = self.undone[-1]
        self.do_again(deed)
        self.undone = self.undone[:-1]
        self.told = self.told + (("redo",),)
        return deed

    def state(self):
        """All that give_back needs."""
        return (self.house.plan, self.done, self.undone, self.told)

    def give_back(self, state):
        """Be again as at an earlier state."""
        house = self.house
        house.present, self.done, self.undone, self.told = state


def replayed(rooms, annex, journal):
    """A new history in which a journal was done."""
    history = History(rooms, annex)
    for entry in journal:
        told = as_tuples(entry)
        if told == ("undo",):
            history.undo()
        elif told == ("redo",):
            history.redo()
        else:
            history.do(entry)
    return history
