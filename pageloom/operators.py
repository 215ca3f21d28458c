"""Operators, each done as a whole or, by a fault, not at all."""

from pageloom.desks import Fault
from pageloom.drawops import do_drawing
from pageloom.flowops import FLOW_DEEDS, do_flow
from pageloom.kinds import TAKES
from pageloom.sumops import SUM_DEEDS, do_sums


def is_operator(name):
    """Whether a name is an operator's."""
    return name in TAKES


def taken_by(operands, kinds):
    """A list of what an operator that takes these kinds is handed of a list of operands."""
    if len(operands) < len(kinds):
        raise Fault("underflow")
    last = operands[len(operands) - len(kinds):]
    if not all([kind == "any" or operand[0] == kind for operand, kind in zip(last, kinds)]):
        raise Fault("kind")
    return [operand if kind == "any" else operand[1] for operand, kind in zip(last, kinds)]


def put_by(desk, name, taken):
    """Does an operator's deed, and tells a list of the operands that it puts."""
    if name in SUM_DEEDS:
        return do_sums(desk, name, taken)
    if name in FLOW_DEEDS:
        return do_flow(desk, name, taken)
    return do_drawing(desk, name, taken)


def perform(desk, name):
    """Does an operator; by a fault all is as ahead of it."""
    taken = taken_by(desk.operands, TAKES[name])
    put = put_by(desk, name, taken)
    # Only now that no fault can come any more, what it took goes.
    del desk.operands[len(desk.operands) - len(taken):]
    desk.operands.extend(put)
