"""Judges plans of stands step by step."""

from spentblocks.errors import NoNumber
from spentblocks.faults import enemy_plan_fault, store_fault
from spentblocks.parts import is_count
from spentblocks.spots import Shapes


def plan_fault(stand, n, thing):
    """The first fault of the thing as a plan of n (None: for ever) for the stand, or None."""
    if n is not None and not is_count(n):
        raise NoNumber()
    return store_fault(Shapes(), stand.shape(), n, thing)


def enemy_fault(stand, n, thing):
    """The first fault of the thing as an enemy's plan to n for the stand, or None."""
    if not is_count(n):
        raise NoNumber()
    return enemy_plan_fault(Shapes(), stand.shape(), n, thing)
