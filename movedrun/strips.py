"""Strips: rows for registers, made of a function's code or by whomever."""

from movedrun.errors import BadGuesses, BadOpened
from movedrun.forms import is_between, is_tuple_of
from movedrun.lifting import lifted
from movedrun.ops import Codes
from movedrun.striplook import StripLook
from movedrun.verifier import verified, verified_with


def lift(module, function, guesses, opened):
    """A strip of the function, None if it would be too great."""
    known = verified_with(module, function)
    look_at_guesses(known, guesses)
    look_at_opened(known, opened)
    return lifted(known, Codes(known), function, guesses, opened)


def look_at_guesses(known, guesses):
    if not isinstance(guesses, tuple):
        raise BadGuesses("this is no tuple of guesses")
    last = (-1, 0)
    for guess in guesses:
        if not is_tuple_of(guess, 3) or not is_place(known, guess[:2], ("ask",)) or guess[:2] <= last:
            raise BadGuesses("a guess is of an ask, behind those ahead of it")
        last = guess[:2]
        if not isinstance(guess[2], str) or guess[2] not in known.below(asked_class(known, last)):
            raise BadGuesses("what is guessed is a class at or below the ask's")


def look_at_opened(known, opened):
    if not isinstance(opened, tuple):
        raise BadOpened("this is no tuple of places")
    last = (-1, 0)
    for place in opened:
        if not is_tuple_of(place, 2) or not is_place(known, place, ("call", "ask")) or place <= last:
            raise BadOpened("what is opened is a call or an ask, behind those ahead of it")
        last = place


def is_place(known, thing, words):
    """Whether two things are a function's index and the place of an instruction there with one of these words."""
    function, place = thing
    if not is_between(function, 0, len(known.functions) - 1):
        return False
    code = known.functions[function][4]
    return is_between(place, 0, len(code) - 1) and code[place][0] in words


def asked_class(known, place):
    return known.functions[place[0]][4][place[1]][1]


def strip_holds(module, thing):
    """Whether a thing is a strip that is right for the module."""
    known = verified(module)
    return StripLook(known, Codes(known)).holds(thing)
