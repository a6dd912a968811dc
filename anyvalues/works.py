"""Works: machines by names, under deeds that can be undone."""

from anyvalues.deeds import carried_out, machine_of, parting_of
from anyvalues.errors import NothingToRedo, NothingToUndo


class Works:
    """Machines by names, none at first."""

    def __init__(self):
        # The machines after each deed that is not undone, or can be redone; at is the number of the present ones.
        self._states = [{}]
        self._at = 0
        self._deeds = []

    def do(self, deed):
        """Carries out the deed; one that raises an error changes nothing."""
        if deed[0] == "undo":
            if self._at == 0:
                raise NothingToUndo("no deed is left to undo")
            self._at -= 1
        elif deed[0] == "redo":
            if self._at + 1 == len(self._states):
                raise NothingToRedo("no undone deed is left")
            self._at += 1
        else:
            machines = carried_out(self._states[self._at], deed)
            self._at += 1
            self._states = self._states[:self._at] + [machines]
        self._deeds.append(deed)

    def names(self):
        """The names that have a machine, in alphabetical order."""
        return tuple(sorted(self._states[self._at]))

    def machine(self, name):
        """The machine of the name."""
        return machine_of(self._states[self._at], name)

    def parting(self, one, other):
        """The least parting log of the machines of two names, or None if they are alike."""
        return parting_of(self._states[self._at], one, other)

    def journal(self):
        """All deeds that were carried out, in order, "undo" and "redo" too."""
        return tuple(self._deeds)


def replayed(journal):
    """New works with the deeds of the journal carried out."""
    works = Works()
    for deed in journal:
        works.do(deed)
    return works
