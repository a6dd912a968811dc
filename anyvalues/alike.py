"""Whether machines say the same on all logs, and what they can say."""

from anyvalues.leastlogs import least_log
from anyvalues.rows import answers_part, every_step, fits, row_beginning, row_steps, told_joints


def parting(one, other):
    """The least log at whose last entry the answers differ, or None if the machines are alike."""
    return least_log((one, other), every_step, answers_part)


def told_lot(one, other):
    """All joint types that can come about, or None if the machines are not alike."""
    return told_joints((one, other), every_step, answers_part)


def judge(one, other, lot):
    """True if the lot is right, otherwise False."""
    return _lot_right((one, other), every_step, lot)


def parting_under(guard, one, other):
    """The least parting log that is let by, or None if the machines are alike under the guard."""
    return least_log((guard, one, other), _guard_silent, answers_part)


def told_lot_under(guard, one, other):
    """All joint types that can come about under the guard, or None if the machines are not alike."""
    return told_joints((guard, one, other), _guard_silent, answers_part)


def judge_under(guard, one, other, lot):
    """True if the lot is right under the guard, otherwise False."""
    return _lot_right((guard, one, other), _guard_silent, lot)


def saying(machine, tag):
    """The least log at whose last entry the machine says the tag, or None."""
    def says_tag(step):
        return tag in [told for told, spot in step.said[0]]

    return least_log((machine,), every_step, says_tag)


def speaking_alone(one, other):
    """The least log at whose last entry the first machine says something and the other one does not, or None."""
    return least_log((one, other), every_step, _first_alone)


def _guard_silent(step):
    return step.said[0] == ()


def _first_alone(step):
    return step.said[0] != () and step.said[1] == ()


def _lot_right(row, lets, lot):
    """True if the lot has the beginning, and nothing that is let by parts the machines or leads out of it."""
    known = {joint: True for joint in lot}
    if row_beginning(row) not in known:
        return False
    for joint in known:
        if not fits(row, joint):
            return False
        for step in row_steps(row, joint):
            if lets(step) and (answers_part(step) or step.after not in known):
                return False
    return True
