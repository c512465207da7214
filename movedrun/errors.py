"""The errors of the package, all directly under one."""


class MachineError(ValueError):
    """Any error of the package."""


class BadForm(MachineError):
    """A thing is no program."""


class BadText(MachineError):
    """A thing is no text of a program; place tells from which sign on."""

    def __init__(self, place):
        super().__init__(f"this is no text of a program, from the sign {place} on")
        self.place = place


class NotLetBy(MachineError):
    """A program is not right; what is what check tells of it."""

    def __init__(self, what):
        super().__init__(f"the check does not let this program by: {what}")
        self.what = what


class BadGiven(MachineError):
    """A thing is no input."""


class BadCount(MachineError):
    """A thing is no count that may stand here."""


class BadModule(MachineError):
    """A thing is no module."""


class BadRows(MachineError):
    """A thing is no text of a module; row and word tell where."""

    def __init__(self, row, word):
        super().__init__(f"this is no text of a module, from row {row}, word {word} on")
        self.row = row
        self.word = word


class NotVerified(MachineError):
    """A module is not right; what is what verify tells of it."""

    def __init__(self, what):
        super().__init__(f"the verifier does not let this module by: {what}")
        self.what = what


class BadIndex(MachineError):
    """A thing is no index of a function."""


class BadPlace(MachineError):
    """A thing is no place in a body."""


class BadGraph(MachineError):
    """A thing is no graph."""


class BadShapes(MachineError):
    """A thing is no tuple of shapes."""


class BadKind(MachineError):
    """A thing is no kind of an object."""


class BadSize(MachineError):
    """A thing is no number of slots that may stand here."""


class BadValue(MachineError):
    """A thing is no value that the slot can hold."""


class BadSizes(MachineError):
    """A thing is no tuple of sizes."""


class BadRoots(MachineError):
    """A thing is no tuple of roots."""


class BadAddress(MachineError):
    """A thing is no address of an object."""


class BadSlot(MachineError):
    """A thing is no slot of the object."""


class Marking(MachineError):
    """The heap is marking already."""


class BadPicture(MachineError):
    """A thing is no sound picture of a heap."""


class BadSchedule(MachineError):
    """A thing is no schedule."""


class BadView(MachineError):
    """A thing is no view of the module."""


class BadStrip(MachineError):
    """A thing is no strip that is right for the module."""


class BadGuesses(MachineError):
    """A thing is no tuple of guesses for the module."""


class BadOpened(MachineError):
    """A thing is no tuple of places that may be opened."""
