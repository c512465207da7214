"""The judge of strips: it looks at each row by itself, and at the next one."""

from movedrun.forms import is_between, is_name, is_tuple_of, is_tuple_to
from movedrun.leading import Standing, ways
from movedrun.silent import passes, settled_view
from movedrun.viewforms import entry_places, entry_view, fact_registers, is_source, is_view, sources_of

MOST_STRIP_ROWS = 4000
GREATEST_REGISTER = 199


class StripLook:
    """Looks at what is to be a strip of a module."""

    def __init__(self, known, codes):
        self.known = known
        self.codes = codes
        self.rows = ()

    def holds(self, thing):
        if not is_tuple_of(thing, 3) or not is_tuple_to(thing[2], MOST_STRIP_ROWS):
            return False
        function, entries, self.rows = thing
        if not is_between(function, 0, len(self.known.functions) - 1):
            return False
        for row in self.rows:
            if not self.is_row(row):
                return False
        if not self.are_entries(function, entries):
            return False
        for row in self.rows:
            if not self.leads_on(row):
                return False
        return True

    def is_index(self, thing):
        return is_between(thing, 0, len(self.rows) - 1)

    def is_row(self, row):
        """Whether this has the form of a row, and its view is one that may stand there."""
        if not is_tuple_of(row, 4):
            return False
        view, facts, deed, behind = row
        if not is_view(self.known, view) or not is_bounded(self.known, view) or not is_deed(deed):
            return False
        if facts != () and not are_facts(facts, fact_registers(self.known, view)):
            return False
        if deed[0] != "moves" and settled_view(self.known, view) != view:
            return False
        if deed[0] == "if":
            return is_tuple_of(behind, 2) and self.is_index(behind[0]) and self.is_index(behind[1])
        return behind is None if deed[0] in ("done", "out") else self.is_index(behind)

    def are_entries(self, function, entries):
        places = entry_places(self.known, function)
        if not is_tuple_of(entries, len(places)):
            return False
        for entry, place in zip(entries, places):
            if not is_tuple_of(entry, 2) or not is_between(entry[0], place, place) or not self.is_index(entry[1]):
                return False
            row = self.rows[entry[1]]
            if row[1] != () or not self.follows(row, entry_view(self.known, function, place)):
                return False
        return True

    def follows(self, row, view):
        """Whether a row follows a view: what is no moves row is settled already."""
        return passes(self.known, view, row[0])

    def leads_on(self, row):
        """Whether the deed fits, and the rows behind are right behind it."""
        view, facts, deed, behind = row
        if deed[0] == "moves":
            return self.moves_on(row)
        found = ways(Standing(self.known, self.codes, view, facts), deed)
        if found is None:
            return False
        indexes = behind if deed[0] == "if" else (behind,)
        for way, index in zip(found, indexes):
            if not self.is_way_to(way, facts, self.rows[index]):
                return False
            if deed[0] == "guard" and self.rows[index][2][0] in ("guard", "moves"):
                return False
        return True

    def is_way_to(self, way, facts, row):
        view, written, told = way
        if not self.follows(row, view):
            return False
        return are_kept(row[1], [fact for fact in facts if fact[0] != written] + list(told))

    def moves_on(self, row):
        view, facts, deed, behind = row
        next_row = self.rows[behind]
        if next_row[2][0] == "moves":
            return False
        pairs = {number: source for number, source in deed[1]}
        led = tuple([led_frame(frame, pairs) for frame in next_row[0]])
        if not passes(self.known, view, led):
            return False
        return are_kept(next_row[1], [fact for fact in facts if fact[0] not in pairs])


def led_frame(frame, pairs):
    """A frame with each of its registers led back to where its value comes from."""
    function, place, slots, stack = frame
    return (function, place, led_sources(slots, pairs), led_sources(stack, pairs))


def led_sources(sources, pairs):
    return tuple([
        pairs.get(source[1], source) if source is not None and source[0] == "r" else source for source in sources
    ])


def are_kept(facts, others):
    """Whether all facts are among the other ones."""
    for fact in facts:
        if fact not in others:
            return False
    return True


def is_bounded(known, view):
    """No function twice, no register beyond the bound, none both for what may be a thing and for what is none."""
    if len({frame[0] for frame in view}) < len(view):
        return False
    kinds = {}
    for source, kind in sources_of(known, view):
        if source[0] != "r":
            continue
        if source[1] > GREATEST_REGISTER:
            return False
        if kind != "mixed":
            is_plain = kind == "int" or kind == "truth"
            if kinds.setdefault(source[1], is_plain) != is_plain:
                return False
    return True


def are_facts(thing, registers):
    """Whether this is an ascending tuple of facts, each of another one of these registers."""
    if not isinstance(thing, tuple):
        return False
    last = -1
    for fact in thing:
        if not is_tuple_of(fact, 2) or not is_register(fact[0]) or not is_name(fact[1]):
            return False
        if fact[0] <= last or fact[0] not in registers:
            return False
        last = fact[0]
    return True


def is_register(thing):
    return is_between(thing, 0, GREATEST_REGISTER)


def is_deed(thing):
    if not isinstance(thing, tuple) or thing == () or not isinstance(thing[0], str):
        return False
    word = thing[0]
    if word in ("if", "beat", "enter", "leave", "done", "out"):
        return len(thing) == 1
    if len(thing) != 2:
        return False
    if word == "do" or word == "call":
        return thing[1] is None or is_register(thing[1])
    if word == "guard":
        return is_name(thing[1])
    return word == "moves" and are_pairs(thing[1])


def are_pairs(thing):
    """Whether this is an ascending tuple of (register, source), each register once."""
    if not isinstance(thing, tuple):
        return False
    last = -1
    for pair in thing:
        if not is_tuple_of(pair, 2) or not is_register(pair[0]) or pair[0] <= last or not is_source(pair[1]):
            return False
        if pair[1][0] == "r" and not is_register(pair[1][1]):
            return False
        last = pair[0]
    return True
