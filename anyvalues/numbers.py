"""The numbers of tight logs with the tag 0 alone, among those of as many entries, ascending as tuples.

A log grows entry by entry. How many tight logs begin with given values hangs on three numbers: how
many entries are left, how many different values there are, and how many values below the greatest
one are missing yet, which must all come.
"""


class Beginning:
    """The first values of a tight log, with the numbers of tight logs of so many entries that begin alike."""

    def __init__(self, entries):
        self._table = _endings(entries)
        self._left = entries
        self._used = {}
        self._greatest = -1

    def choices(self):
        """For each value that can be next, from 0 on, the number of tight logs that go on with it, a list."""
        left = self._left - 1
        used = len(self._used)
        missing = self._greatest + 1 - used
        found = []
        for value in range(self._greatest + 1):
            if value in self._used:
                found.append(self._table[left][used][missing])
            else:
                found.append(self._table[left][used + 1][missing - 1])
        # Each value above all others leaves one more missing than the value before it.
        return found + self._table[left][used + 1][missing:]

    def go_on(self, value):
        """Puts the value behind the others."""
        self._left -= 1
        self._used[value] = True
        self._greatest = max(self._greatest, value)


def _endings(entries):
    """The numbers of endings, by entries left, different values and missing values."""
    # Each row ends with one more missing value than entries are left, to which there is no ending.
    table = [[[1, 0]] * (entries + 1)]
    for left in range(1, entries + 1):
        behind = [[*row, 0] for row in table[-1]]
        table.append([_more_endings(used, behind) for used in range(entries + 1 - left)])
    return table


def _more_endings(used, behind):
    """The numbers of endings for so many different values, by missing values; behind has those with an entry less."""
    found = []
    for missing in range(len(behind[used])):
        old = used * behind[used][missing]
        between = missing * behind[used + 1][missing - 1]
        # A value above all others may leave any number of values between it and them missing, too.
        above = sum(behind[used + 1][missing:])
        found.append(old + between + above)
    return found


def log_of_number(n, number):
    """The tight log of n entries with this number."""
    beginning = Beginning(n)
    log = []
    for _ in range(n):
        value = 0
        for many in beginning.choices():
            if number < many:
                break
            number -= many
            value += 1
        beginning.go_on(value)
        log.append((0, value))
    return tuple(log)


def number_of_log(log):
    """The number of the tight log."""
    beginning = Beginning(len(log))
    number = 0
    for _, value in log:
        number += sum(beginning.choices()[:value])
        beginning.go_on(value)
    return number
