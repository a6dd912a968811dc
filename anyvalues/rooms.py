"""Machines read on from given contents, where the room between whole numbers from 0 counts."""

from anyvalues.gaps import BASE
from anyvalues.orders import held_values, ranks_of
from anyvalues.partings import Partings
from anyvalues.roomy import at_least, rooms_behind, rooms_between, widened
from anyvalues.rows import answers_part, different, fits, row_steps


def parting_from(one, content, other, another):
    """The least parting log from the contents of the two machines, or None."""
    joint, values = _together(content, another)
    partings = Partings((one, other), joint, values)
    return None if partings.length is None else partings.least_log()


def told_rooms(one, content, other, another):
    """A right roomy lot for the contents of the two machines, or None if they are not alike."""
    joint, values = _together(content, another)
    partings = Partings((one, other), joint, values)
    if partings.length is not None:
        return None
    told = {}
    lot = []
    _put(lot, told, partings, joint, rooms_between(values))
    at = 0
    while at < len(lot):
        joint, rooms = lot[at]
        at += 1
        for step in partings.steps(joint):
            for behind in rooms_behind(step, rooms):
                _put(lot, told, partings, step.after, behind)
    return tuple([(*joint, rooms) for joint, rooms in lot])


def judge_rooms(one, content, other, another, lot):
    """True if the roomy lot is right for the contents of the two machines, otherwise False."""
    told = {}
    for roomy in lot:
        told.setdefault(roomy[:3], {})[roomy[3]] = True
    joint, values = _together(content, another)
    if not _known(told, joint, rooms_between(values)):
        return False
    return all([_joint_right((one, other), told, joint) for joint in told])


def _together(content, another):
    """The joint type of two contents and their values, ascending with BASE in front."""
    held = content[1] + another[1]
    return (content[0], another[0], ranks_of(held)), (BASE, *held_values(held))


def _known(told, joint, rooms):
    """True if some told rooms of the joint type are at least these."""
    return any([at_least(wide, rooms) for wide in told.get(joint, {})])


def _put(lot, told, partings, joint, rooms):
    """Adds roomy rooms as wide as they can be, if none are there that are at least these."""
    if _known(told, joint, rooms):
        return
    wide = widened(rooms, partings.gaps(joint))
    told.setdefault(joint, {})[wide] = True
    lot.append((joint, wide))


def _joint_right(row, told, joint):
    """True if from all told rooms of the joint type no step parts the machines or leads out of what is told."""
    if not fits(row, joint):
        return False
    for step in row_steps(row, joint):
        for rooms in told[joint]:
            behind = rooms_behind(step, rooms)
            if behind and answers_part(step):
                return False
            if not all([_known(told, step.after, wide) for wide in behind]):
                return False
    return True
