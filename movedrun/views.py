"""Views: what the registers of a strip stand for."""

from movedrun.errors import BadView
from movedrun.silent import settled_view
from movedrun.verifier import verified
from movedrun.viewforms import is_view


def settled(module, view):
    """The view behind as many silent steps as there are."""
    known = verified(module)
    if not is_view(known, view):
        raise BadView("this is no view of the module")
    return settled_view(known, view)
