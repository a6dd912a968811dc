"""What is known of the places of a machine, if some conditions hold and others do not.

It serves to leave out cases that can never be carried out. Not all that follows is found: where a
condition can hold in several ways, none of them is tried out.
"""

from anyvalues.machines import NEW


class Facts:
    """Places that hold a value or are empty, how held values compare, and what else is told.

    held has True or False for each place of which this is known. order has, for a pair of places,
    True if the value at the first one is less, False if it is less or the same. denied has the
    conditions "less" and "same" that do not hold. What is unsettled are pairs of a condition "all" or
    "any" and True or False, as it holds or not.
    """

    def __init__(self, held, order, denied, unsettled):
        self._held = held
        self._order = order
        self._denied = denied
        self._unsettled = unsettled
        self._news = False

    def assuming(self, condition, wanted):
        """The facts if the condition holds as well, or does not, as wanted; None if that cannot be."""
        order = {pair: self._order[pair] for pair in self._order}
        denied = {told: True for told in self._denied}
        grown = Facts(dict(self._held), order, denied, list(self._unsettled))
        return grown if grown._all_taken([(condition, wanted)]) else None

    def truth(self, condition):
        """True or False if it is known whether the condition holds, else None."""
        word = condition[0]
        if word in ("true", "false"):
            return word == "true"
        if word == "not":
            inner = self.truth(condition[1])
            return None if inner is None else not inner
        if word in ("all", "any"):
            decisive = word == "any"
            truths = [self.truth(part) for part in condition[1]]
            if decisive in truths:
                return decisive
            return None if None in truths else not decisive
        if word == "empty":
            holding = self._holds_value(condition[1])
            return None if holding is None else not holding
        known = self._compared(condition)
        return False if known is None and condition in self._denied else known

    def _holds_value(self, place):
        return True if place == NEW else self._held.get(place)

    def _compared(self, condition):
        """Whether "less" or "same" holds as what is held tells, None if it does not tell."""
        word, one, other = condition
        holding = [self._holds_value(one), self._holds_value(other)]
        if False in holding:
            return False
        if one == other:
            if word == "less":
                return False
            return None if None in holding else True
        below = self._order.get((one, other))
        above = self._order.get((other, one))
        if word == "less":
            if above is not None:
                return False
            return True if below else None
        if below or above:
            return False
        return None if below is None or above is None else True

    def _all_taken(self, told):
        """Adds all that follows from what is told; False if that cannot be."""
        while told:
            for condition, wanted in told:
                if not self._taken(condition, wanted):
                    return False
            told = []
            if self._news:
                # More may follow now from what was told before.
                self._news = False
                told = [(condition, False) for condition in self._denied] + self._unsettled
                self._unsettled = []
        return True

    def _taken(self, condition, wanted):
        word = condition[0]
        if word in ("less", "same") and not wanted:
            return self._deny(condition)
        known = self.truth(condition)
        if known is not None:
            return known == wanted
        if word == "not":
            return self._taken(condition[1], not wanted)
        if word in ("all", "any"):
            return self._parts_taken(condition, wanted)
        if word == "empty":
            self._hold(condition[1], not wanted)
        else:
            self._compare(condition)
        return True

    def _parts_taken(self, condition, wanted):
        if (condition[0] == "all") == wanted:
            return all([self._taken(part, wanted) for part in condition[1]])
        undecided = [part for part in condition[1] if self.truth(part) is None]
        if len(undecided) == 1:
            return self._taken(undecided[0], wanted)
        self._unsettled.append((condition, wanted))
        return True

    def _hold(self, place, holding):
        if self._holds_value(place) is None:
            self._held[place] = holding
            self._news = True

    def _compare(self, condition):
        """Adds that "less" or "same" holds."""
        word, one, other = condition
        self._hold(one, True)
        self._hold(other, True)
        self._put(one, other, word == "less")
        if word == "same":
            self._put(other, one, False)

    def _deny(self, condition):
        """Adds that "less" or "same" does not hold; False if it surely does."""
        word, one, other = condition
        known = self._compared(condition)
        if known is not None:
            return not known
        if condition not in self._denied:
            self._denied[condition] = True
            self._news = True
        if not (self._holds_value(one) and self._holds_value(other)):
            return True
        if word == "less":
            self._put(other, one, False)
        elif (one, other) in self._order:
            self._put(one, other, True)
        elif (other, one) in self._order:
            self._put(other, one, True)
        return True

    def _put(self, one, other, less):
        """Adds that the first value is less, or else not greater, and what follows with other values."""
        lower = [(one, less)]
        upper = [(other, False)]
        for pair, surely in self._order.items():
            if pair[1] == one:
                lower.append((pair[0], less or surely))
            if pair[0] == other:
                upper.append((pair[1], surely))
        for low, surely in lower:
            for high, too in upper:
                known = self._order.get((low, high))
                if low != high and (known is None or (surely or too) and not known):
                    self._order[(low, high)] = surely or too
                    self._news = True


def no_facts():
    """Nothing is known."""
    return Facts({}, {}, {}, [])
