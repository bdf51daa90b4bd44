"""Judges plans with keys known ahead step by step."""

from spentblocks.errors import NoNumber
from spentblocks.faults import enemy_plan_fault, store_fault
from spentblocks.parts import is_count
from spentblocks.spots import Views, first_view


def plan_ahead_fault(stand, row, n, thing):
    """The first fault of the thing as a plan ahead of n (None: for ever) for the stand and the row, or None."""
    first = first_view(stand, row)
    if n is not None and not is_count(n):
        raise NoNumber()
    return store_fault(Views(len(row)), first, n, thing)


def enemy_ahead_fault(stand, row, n, thing):
    """The first fault of the thing as an enemy's plan ahead to n for the stand and the row, or None."""
    first = first_view(stand, row)
    if not is_count(n):
        raise NoNumber()
    return enemy_plan_fault(Views(len(row)), first, n, thing)
