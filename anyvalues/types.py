"""Types: contents of which nothing is left but the standing and the order of what is held."""

from anyvalues.orders import ranks_of
from anyvalues.rows import every_step, no_step, row_step, told_joints


def type_of(content):
    """The type of a content."""
    standing, held = content
    return (standing, ranks_of(held))


def step_of(machine, kind, tag, spot):
    """The type after an entry with this tag and a value at this spot, and the answer in spots."""
    step = row_step((machine,), kind, tag, spot)
    return (step.after, step.said[0])


def types_of(machine):
    """All types that can come about, in the order in which they are found."""
    return told_joints((machine,), every_step, no_step)
