"""How a strip is made: views are followed from each entry, and one row is made for each that is come to."""

from movedrun.family import NIL
from movedrun.known import places_behind
from movedrun.leading import Standing, is_doing, ways
from movedrun.silent import SilentWalk, settled_view
from movedrun.striplook import GREATEST_REGISTER, MOST_STRIP_ROWS
from movedrun.viewforms import entry_places, entry_view, fact_registers


class TooGreat(Exception):
    """The strip would be beyond its bounds."""


class Lifting:
    """The rows as they are made; guesses and opened tell of asks and calls by (function, place)."""

    def __init__(self, known, codes, guesses, opened):
        self.known = known
        self.codes = codes
        self.guesses = guesses
        self.opened = opened
        self.rows = []
        # The rows by what they are made for, and of those that lead nowhere yet the first one.
        self.made = {}
        self.led = 0
        self.merging = {}

    def strip_of(self, function):
        """The strip of a function; TooGreat if it would be too great."""
        entries = []
        for place in entry_places(self.known, function):
            view = settled_view(self.known, entry_view(self.known, function, place))
            entries.append((place, self.row_at(view, ())))
        while self.led < len(self.rows):
            self.lead(self.led)
            self.led += 1
        return (function, tuple(entries), tuple([tuple(row) for row in self.rows]))

    def row_at(self, view, facts):
        """The row of a settled view: its deed is told when it is led on."""
        return self.row_of((view, facts), [view, facts, None, None])

    def row_of(self, key, row):
        if key not in self.made:
            if len(self.rows) == MOST_STRIP_ROWS:
                raise TooGreat("there are too many rows")
            self.made[key] = len(self.rows)
            self.rows.append(row)
        return self.made[key]

    def row_behind(self, view, facts):
        """The row that follows a view: where ways meet moves bring it to the form that all of them have there."""
        walk = SilentWalk(self.known, view)
        places = self.meeting_places(walk.function)
        while walk.place not in places and walk.step():
            continue
        if walk.place in places:
            return self.row_in_form(walk.view())
        view = walk.view()
        return self.row_at(view, self.kept(view, facts))

    def row_in_form(self, view):
        form, pairs = form_of(view)
        settled = settled_view(self.known, form)
        if pairs == ():
            return self.row_at(settled, ())
        # No key of another row is like this one: its second part are facts, which name classes, not sources.
        return self.row_of((view, pairs), [view, (), ("moves", pairs), settled])

    def kept(self, view, facts):
        """The facts of registers that stand in the view."""
        if facts == ():
            return ()
        registers = fact_registers(self.known, view)
        return tuple([fact for fact in facts if fact[0] in registers])

    def meeting_places(self, function):
        """The places of a function to which more than one way leads."""
        if function not in self.merging:
            many = {0: 1}
            for place in self.ways_in(function):
                many[place] = many.get(place, 0) + 1
            self.merging[function] = {place: True for place in many if many[place] > 1}
        return self.merging[function]

    def ways_in(self, function):
        code = self.known.functions[function][4]
        kinds = self.known.kinds[function]
        found = [catch[2] for catch in self.known.functions[function][5]]
        for place in range(len(code)):
            if kinds[place] is not None:
                found.extend(places_behind(code, place))
        return found

    def lead(self, index):
        """Tells a row's deed and the rows behind it."""
        view, facts, deed, behind = self.rows[index]
        if deed is not None:
            # A moves row: the view behind it is settled already.
            self.rows[index][3] = self.row_at(behind, ())
            return
        standing = Standing(self.known, self.codes, view, facts)
        deed = self.deed(standing)
        found = ways(standing, deed)
        self.rows[index][2] = deed
        if deed[0] == "guard":
            self.rows[index][3] = self.row_at(view, tuple(sorted(facts + found[0][2])))
        elif deed[0] == "if":
            self.rows[index][3] = tuple([self.row_behind(way[0], facts) for way in found])
        elif found != ():
            # What is written stood nowhere in the view, so no fact was of it.
            view, _, told = found[0]
            self.rows[index][3] = self.row_behind(view, tuple(sorted(facts + told)))

    def deed(self, standing):
        word = standing.op.word
        if word == "done":
            return ("done",) if len(standing.view) == 1 else ("leave",)
        if word == "jump":
            return ("beat",)
        if word == "if" and standing.stack[-1][0] == "r":
            return ("if",)
        if word == "call" or word == "ask":
            return self.call_deed(standing)
        if not is_doing(standing) or self.is_at_of_nil(standing):
            # A throw, an if of a constant, or what is sure to fault.
            return ("out",)
        return ("do", self.free_number(standing))

    def is_at_of_nil(self, standing):
        """Behind it nothing has kinds, as it always faults."""
        if standing.op.word != "at":
            return False
        return self.known.kinds[standing.function][standing.place][-standing.op.takes] == NIL

    def call_deed(self, standing):
        place = (standing.function, standing.place)
        if self.is_guessing(standing):
            return ("guard", self.guesses[place])
        callee = standing.callee()
        if place in self.opened and callee is not None and standing.has_room_for(callee):
            return ("enter",)
        return ("call", self.free_number(standing))

    def is_guessing(self, standing):
        """An ask that is guessed, of a register without a fact, whatever its kind is there."""
        if standing.op.word != "ask" or (standing.function, standing.place) not in self.guesses:
            return False
        return standing.receiver()[0] == "r" and standing.fact(standing.receiver()) is None

    def free_number(self, standing):
        """The least register that stands nowhere in the view, None if nothing comes."""
        if standing.op.puts == 0:
            return None
        used = {}
        for _, _, slots, stack in standing.view:
            for source in slots + stack:
                if source is not None and source[0] == "r":
                    used[source[1]] = True
        number = 0
        while number in used:
            number += 1
        if number > GREATEST_REGISTER:
            raise TooGreat("there are too many registers")
        return number


def form_of(view):
    """The view with all its sources in registers 0, 1, .. frame by frame, and the moves that bring them there."""
    pairs = []
    frames = []
    number = 0
    for function, place, slots, stack in view:
        told = []
        for source in slots + stack:
            if source is None:
                told.append(None)
                continue
            if number > GREATEST_REGISTER:
                raise TooGreat("there are too many registers")
            if source != ("r", number):
                pairs.append((number, source))
            told.append(("r", number))
            number += 1
        frames.append((function, place, tuple(told[:len(slots)]), tuple(told[len(slots):])))
    return tuple(frames), tuple(pairs)


def lifted(known, codes, function, guesses, opened):
    """The strip of a function, None if it would be too great."""
    lifting = Lifting(
        known, codes, {(index, place): name for index, place, name in guesses}, {place: True for place in opened}
    )
    try:
        return lifting.strip_of(function)
    except TooGreat:
        return None
