"""What a program means: the outcome of a run of it."""

from movedrun.checks import checked
from movedrun.values import look_at_count, look_at_given
from movedrun.walking import Walk


def mean(program, given, bound):
    """(word, told, shown): how a run with this input ends that may make so many beats, and what it shows."""
    checked(program)
    look_at_given(given)
    look_at_count(bound)
    walk = Walk(program, given, bound)
    word, told = walk.run()
    return (word, told, tuple(walk.shown))
