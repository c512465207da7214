"""Strips that are bent at random: some are right still."""


def bent_strip(chance, strip, classes):
    """The strip with a few things changed; classes are names for facts."""
    function, entries, rows = strip
    rows = [list(row) for row in rows]
    for _ in range(chance.choice((1, 1, 1, 2, 3))):
        bend = chance.choice(BENDS)
        bend(chance, rows, chance.randrange(len(rows)), classes or ["A"])
    return (function, entries, tuple(tuple(row) for row in rows))


def exchanged(view, one, other):
    """A view with two registers exchanged."""
    def source(told):
        return {("r", one): ("r", other), ("r", other): ("r", one)}.get(told, told)
    return tuple((frame[0], frame[1], tuple(map(source, frame[2])), tuple(map(source, frame[3]))) for frame in view)


def bend_source(chance, rows, index, classes):
    view = [list(frame) for frame in rows[index][0]]
    frame = chance.choice(view)
    part = chance.choice((2, 3))
    if frame[part]:
        sources = list(frame[part])
        sources[chance.randrange(len(sources))] = chance.choice(
            (("r", chance.randrange(6)), ("int", chance.randrange(3)), ("nil",), ("truth", True), None))
        frame[part] = tuple(sources)
    rows[index][0] = tuple(tuple(frame) for frame in view)


def bend_place(chance, rows, index, classes):
    view = [list(frame) for frame in rows[index][0]]
    view[-1][1] = max(0, view[-1][1] + chance.choice((-1, 1)))
    rows[index][0] = tuple(tuple(frame) for frame in view)


def bend_depth(chance, rows, index, classes):
    rows[index][0] = rows[index][0][:-1] or rows[index][0]


def bend_names(chance, rows, index, classes):
    rows[index][0] = exchanged(rows[index][0], chance.randrange(6), chance.randrange(6))


def drop_fact(chance, rows, index, classes):
    rows[index][1] = rows[index][1][1:]


def add_fact(chance, rows, index, classes):
    registers = [source[1] for frame in rows[index][0] for source in frame[2] + frame[3] if source and source[0] == "r"]
    if registers:
        facts = dict(rows[index][1])
        facts[chance.choice(registers)] = chance.choice(classes)
        rows[index][1] = tuple(sorted(facts.items()))


def bend_written(chance, rows, index, classes):
    deed = rows[index][2]
    if deed[0] in ("do", "call") and deed[1] is not None:
        rows[index][2] = (deed[0], chance.randrange(8))


def go_out(chance, rows, index, classes):
    rows[index][2:] = [("out",), None]


def bend_next(chance, rows, index, classes):
    behind = rows[index][3]
    other = chance.randrange(len(rows))
    if isinstance(behind, tuple):
        rows[index][3] = chance.choice(((other, behind[1]), (behind[0], other), behind[::-1]))
    elif behind is not None:
        rows[index][3] = other


def bend_moves(chance, rows, index, classes):
    deed = rows[index][2]
    if deed[0] == "moves" and deed[1]:
        pairs = list(deed[1])
        at = chance.randrange(len(pairs))
        pairs[at] = chance.choice(((pairs[at][0], ("r", chance.randrange(5))), (chance.randrange(5), pairs[at][1])))
        rows[index][2] = ("moves", tuple(sorted(pairs)))


def put_moves_ahead(chance, rows, index, classes):
    """A moves row that exchanges two registers, and the row behind it with these exchanged."""
    view, _, deed, behind = rows[index]
    if deed[0] == "moves":
        return
    one, other = chance.sample(range(6), 2)
    if deed[0] in ("do", "call") and deed[1] is not None:
        deed = (deed[0], chance.choice((deed[1], {one: other, other: one}.get(deed[1], deed[1]))))
    rows.append([exchanged(view, one, other), (), deed, behind])
    rows[index] = [view, (), ("moves", tuple(sorted(((one, ("r", other)), (other, ("r", one)))))), len(rows) - 1]


BENDS = (bend_source, bend_place, bend_depth, bend_names, drop_fact, add_fact, bend_written, go_out, bend_next, bend_moves, put_moves_ahead)


def renumbered(behind, numbers):
    if isinstance(behind, tuple):
        return tuple(numbers[index] for index in behind)
    return None if behind is None else numbers[behind]


def shuffled_strip(chance, strip):
    """The same rows in another sequence: right, if the strip is."""
    function, entries, rows = strip
    sequence = chance.sample(range(len(rows)), len(rows))
    numbers = {old: new for new, old in enumerate(sequence)}
    moved = tuple(rows[old][:3] + (renumbered(rows[old][3], numbers),) for old in sequence)
    return (function, tuple((place, numbers[row]) for place, row in entries), moved)


def doubled_strip(chance, strip):
    """Each row twice, and one or the other of the two is behind: right, if the strip is."""
    function, entries, rows = strip
    many = len(rows)

    def either(index):
        return index + chance.choice((0, many))

    def behind(row):
        if isinstance(row[3], tuple):
            return tuple(either(index) for index in row[3])
        return None if row[3] is None else either(row[3])

    doubled = tuple(row[:3] + (behind(row),) for row in rows + rows)
    return (function, tuple((place, either(row)) for place, row in entries), doubled)


def leaving_strip(chance, strip):
    """Some rows go out: right, if the strip is."""
    function, entries, rows = strip
    left = [row[:2] + (("out",), None) if row[2][0] != "moves" and chance.random() < 0.2 else row for row in rows]
    return (function, entries, tuple(left))


def moved_strip(chance, strip):
    """Two registers are exchanged ahead of some rows, and back behind them: right, if the strip is."""
    function, entries, rows = strip
    rows = list(rows)
    guarded = {row[3] for row in rows if row[2][0] in ("guard", "moves")}
    for index in range(len(rows)):
        view, facts, deed, behind = rows[index]
        if index in guarded or facts != () or deed[0] not in ("do", "call", "beat", "leave") or chance.random() < 0.5:
            continue
        if behind == index or rows[behind][1] != () or rows[behind][2][0] == "moves":
            continue
        one, other = chance.sample(range(12), 2)
        pairs = tuple(sorted(((one, ("r", other)), (other, ("r", one)))))
        if len(deed) > 1 and deed[1] is not None:
            deed = (deed[0], {one: other, other: one}.get(deed[1], deed[1]))
        rows[index] = (view, (), ("moves", pairs), len(rows))
        rows.append((exchanged(view, one, other), (), deed, len(rows) + 1))
        rows.append((exchanged(rows[behind][0], one, other), (), ("moves", pairs), behind))
        # What is behind moves may not become a moves row itself.
        guarded.add(behind)
    return (function, entries, tuple(rows))


REMAKINGS = (shuffled_strip, doubled_strip, leaving_strip, moved_strip)
